import PyProof.Rows.All
import Wide.All
import OpenK.AllK
import Wide.FinOn
import HandS.ForMost
import HandS.ForExc
import HandS.Evl
import HandS.Star
import HandS.ExcInit
import HandS.ExcField
import HandS.IsInst
import HandS.Conv
import HandS.Flow
import HandS.ClsMeth
import HandS.CallSlots
import HandS.TryMany
import KE.KExcIs
import KE.GoesMore
import HandS.Wide
import HandS.OwnEq
import HandS.Style
import HandS.SetFor
import HandS.TupAny
import HandS.NoneIn
import KE.KMathGC
import HandS.SortRule
import HandS.GenList
import HandS.GenCall
import HandS.IterNext
import PyProof.ReprRoads
import HandS.DictComp
import HandS.SortInts
import HandS.WordsDict
import HandS.Steps
import PyProof.Rows.StrJoinMade
import PyProof.Rows.StrDigitsNeg
import PyProof.Rows.RegFStrParts
import HandS.Gcd
import KE.SortData
import PyProof.Rows.ReprOcc
import PySem.Challenge.RW_everybowl_k11_convex_fours_three_ways
set_option Elab.async false
set_option linter.all false
set_option maxRecDepth 100000
set_option maxHeartbeats 4000000
/-! EB: own layer: values as data (PV), what gives them (EvP), promises that may raise (SpX), several named except clauses. -/
namespace EB
open PySem PySem.Spec PyProof.Rows L2 Evl
/-! ### several clauses, each with a name of its own -/
/-- what the clauses want of an exception out of the body: class, slot of the name, suite -/
def wClauses (K : PySem.W.Frag) (Wo : WX) (D : Ends) : List (Value × Nat × (Addr → Value → Option Addr → TS)) → WX
  | [] => Wo
  | (c, i, ts) :: r => fun cls d σ H => ∃ b, PySem.W.exmOne K cls c = some b ∧
      (b = true → ∀ a, H a = none → ts a cls d { nx := fun σ' H' => D.nx (σ'.set i none) H', rt := D.rt, bk := fun σ' H' => D.bk (σ'.set i none) H', ct := fun σ' H' => D.ct (σ'.set i none) H' } (σ.set i (some (.ref a))) H) ∧
      (b = false → wClauses K Wo D r cls d σ H)
inductive Clauses (X : Cx) : List ExceptHandler → List (Value × Nat × (Addr → Value → Option Addr → TS)) → Prop
  | nil : Clauses X [] []
  | cons {x n : Str} {c : Value} {i : Nat} {ts : Addr → Value → Option Addr → TS} {st0 : Stmt} {more : List Stmt} {p1 p2 : Pos} {hl : List ExceptHandler} {l : List (Value × Nat × (Addr → Value → Option Addr → TS))}
      (nm : Names X x c) (at_ : X.N[i]? = some n) (lc : X.env.kindOf n = some .local)
      (body : ∀ (a : Addr) (ob : Obj) (cls : Value) (d : Option Addr) (pn : List (Addr × Obj)), Zc cls d ob → (∃ vs, ob.data = .fields vs) → PSs (X.suite a ((a, ob) :: pn)) (st0 :: more) (ts a cls d))
      (rest : Clauses X hl l) : Clauses X (.ExceptHandler (some (.Name x p1)) (some n) (st0 :: more) p2 :: hl) ((c, i, ts) :: l)
section
variable {X : Cx} {body : List Stmt} {h0 : ExceptHandler} {hl : List ExceptHandler} {l : List (Value × Nat × (Addr → Value → Option Addr → TS))} {pos : Pos} {tb : WX → TS} {Wo : WX}
theorem ps_try_named (eS : X.stack = X.env :: X.outer) (eF : X.env.frame = some X.env.locals) (nd : X.N.Nodup) (tk : Takes X Wo)
    (hb : ∀ (W : WX) (pn : List (Addr × Obj)) (xe : Value → Shared → Prop), Takes (X.tr pn xe) W → PassesOwn (model X.prog X.w) X.A X.env xe → PSs (X.tr pn xe) body (tb W))
    (hh : Clauses X (h0 :: hl) l) : PS X (.Try body (h0 :: hl) [] [] pos) (fun D σ H => tb (wClauses X.K Wo D l) D σ H) := by
  refine ⟨fun pins s σ H D I hyp => ?_⟩
  have okX := I.ok
  have eFr : X.A.frames = some (X.env :: X.outer) := by rw [okX.frames, eS]
  refine wpAny_Try_except ?_
  refine wpAny_mono ((hb (wClauses X.K Wo D l) (X.pn ++ pins) (fun ev t1 => wpAny (model X.prog X.w) X.A (noteFrame ev X.env) (fun _ t2 => wpAny (model X.prog X.w) X.A (setFlight ev none) (fun _ t3 =>
    wpAny (model X.prog X.w) X.A (handleBy ev X.env (h0 :: hl)) (SP X pins D) X.xe t3) X.xe t2) X.xe t1) (fun u t xx => ?_) PassesOwn.looking).run [] s σ H D (I.toTry _) hyp) (fun fl t hsp => ?_) (fun _ _ z => z)
  · obtain ⟨a, B, tI, pins1, σ1, H1, cls, d, rfl, J0, keepB, upS, sky0, freeA, osE, bareE, wish⟩ := xx
    have J : Inv X pins σ1 H1 tI := J0.ofTry okX
    have sky1 : Sky B (X.env :: X.outer) a (Zc cls d) X.env.locals t.heap := by rw [← eS] <;> exact sky0
    show wpAny (model X.prog X.w) X.A (noteFrame (.ref a) X.env) _ _ _
    refine Sky.land Zc.steady eFr eF sky1 fun g3 f3 u3 => ?_
    have K3 : Inv X pins σ1 H1 { t with heap := g3 } := J.landed keepB f3.1 (upS.trans u3) osE bareE
    obtain ⟨ob3, fv3, at3, zc3, dat3⟩ := f3.there
    have off : a ∉ frs (X.env :: X.outer) := fun hm => by
      obtain ⟨_, o', e', hnf⟩ := f3.2.2.1.mem hm
      rw [at3] at e'
      cases e'
      exact hnf _ dat3
    have offL : a ≠ X.env.locals := fun z => off (List.mem_filterMap.mpr ⟨X.env, List.mem_cons_self, by rw [eF, z]⟩)
    have offF : a ∉ X.fs := fun hm => by
      obtain ⟨ee, he, q⟩ := List.mem_filterMap.mp hm
      exact off (List.mem_filterMap.mpr ⟨ee, List.mem_cons_of_mem _ he, q⟩)
    have S3 := K3.suite at3 dat3 freeA offL offF
    have run : ∀ {hl' : List ExceptHandler} {l' : List (Value × Nat × (Addr → Value → Option Addr → TS))}, Clauses X hl' l' → wClauses X.K Wo D l' cls d σ1 H1 →
        wpAny (model X.prog X.w) X.A (handleBy (.ref a) X.env hl') (SP X pins D) X.xe { t with heap := g3 } := by
      intro hl' l' hk
      induction hk with
      | nil =>
        intro wsh
        refine wpAny_handleBy_nil ?_
        obtain ⟨q1, q2, q3, ob, fv, T, oT, tsl, hat, hzc, hdat, hone, hr⟩ := id f3
        unfold PySem.passOn
        refine wpAny_bind (wpAny_field hat hdat hone ?_)
        rw [if_neg (show ¬ ((Value.ref T == Value.none) = true) by simp)]
        have last : wpAny (model X.prog X.w) X.A (setFlight (.ref a) X.env.frame) (fun _ t4 => wpAny (model X.prog X.w) X.A (throw (.ref a) : Sem Flow) (SP X pins D) X.xe t4) X.xe { t with heap := g3 } := by
          rw [eF]
          refine HandSPX.setFlight_upZ f3 fun g4 hh4 u4 => wpAny_throw (tk _ _ ⟨a, B, tI, pins, σ1, H1, cls, d, rfl, J, keepB, (upS.trans u3).trans u4, .inr (.inr (by rw [eS] <;> exact hh4)), freeA, osE, bareE, wsh⟩)
        first
          | exact wpAny_bind (wpAny_pure (wpAny_bind last))
          | exact wpAny_bind last
      | @cons x n c i ts st0 more p1 p2 hl2 l2 nm at_ lc bod rest ih =>
        intro wsh
        obtain ⟨b, isB, yes, no⟩ := wsh
        refine wpAny_handleBy_cons (codeAny_handlers_test ?_) (by intro q; cases q)
        have lookT : PySem.W.Looks (model X.prog X.w) g3 (typeOf (.ref a)) cls := fun _ _ _ _ k q => wpAny_typeOf_ref (k _ _ at3) (by rw [zc3.1] <;> exact q)
        have lookM := PySem.W.exm_one (M := model X.prog X.w) K3.kIn lookT isB
        have ask : ∀ {Q : Value → Shared → Prop} {E : Value → Shared → Prop}, Q c { t with heap := g3 } → wpAny (model X.prog X.w) (X.A.mark (some (.ref a))) (eval (.Name x p1) X.env) Q E { t with heap := g3 } := fun {Q E} q => by
          obtain ⟨gl, dbg, hm | ⟨hm, hv, hnn⟩⟩ := nm
          · exact ld_glob (X := X.suite a ((a, ob3) :: (X.pn ++ pins))) S3 gl hm q dbg
          · exact ld_blt (X := X.suite a ((a, ob3) :: (X.pn ++ pins))) S3 gl hm hv q hnn dbg
        refine ask (lookM.here ?_)
        cases b with
        | true =>
          refine codeAny_handlers_suite_as (HandSPX.lands_againZ f3 fun g4 f4 u4 => ?_)
          have K4 : Inv X pins σ1 H1 { t with heap := g4 } := J.landed keepB f4.1 ((upS.trans u3).trans u4) osE bareE
          obtain ⟨ob4, fv4, at4, zc4, dat4⟩ := f4.there
          have S4 := K4.suite at4 dat4 freeA offL offF
          refine store_ok (X := X.suite a ((a, ob4) :: (X.pn ++ pins))) (v := .ref a) S4 nd at_ (.inl lc) rfl (fun t5 S5 => ?_) (.inr lc)
          refine wpAny_mono ((bod a ob4 cls d (X.pn ++ pins) zc4 ⟨_, dat4⟩).run [] t5 _ H1 _ S5 (yes rfl a freeA)) (fun fl t6 hsp => ?_) (fun _ _ z => False.elim z)
          have fin6 : ∀ {σ6 : L2.St} {H6 : Hp} {Q : Shared → Prop}, Inv (X.suite a ((a, ob4) :: (X.pn ++ pins))) [] σ6 H6 t6 → (∀ t7, Inv X pins (σ6.set i none) H6 t7 → Q t7) →
              wpAny (model X.prog X.w) X.A (do bindName X.env n .none; unbindBehindTheSuite X.env n p2) (fun _ t7 => Q t7) X.xe t6 := fun S6 hq => gone_ok (S6.unsuite okX) nd at_ lc hq
          cases fl with
          | next =>
            obtain ⟨σ6, H6, S6, q6⟩ := hsp
            exact fin6 S6 fun t7 J7 => ⟨_, _, J7, q6⟩
          | brk =>
            obtain ⟨σ6, H6, S6, q6⟩ := hsp
            exact fin6 S6 fun t7 J7 => ⟨_, _, J7, q6⟩
          | cont =>
            obtain ⟨σ6, H6, S6, q6⟩ := hsp
            exact fin6 S6 fun t7 J7 => ⟨_, _, J7, q6⟩
          | ret u6 =>
            obtain ⟨v6, σ6, H6, S6, r6, q6⟩ := hsp
            exact fin6 S6 fun t7 J7 => ⟨_, _, _, J7, r6, q6⟩
        | false =>
          show wpAny _ X.A (handleBy (.ref a) X.env hl2) _ _ _
          exact ih (no rfl)
    exact run hh wish
  · cases fl with
    | next =>
      obtain ⟨σ1, H1, J, q⟩ := hsp
      exact wpAny_execs_nil ⟨σ1, H1, J.ofTry okX, q⟩
    | brk =>
      obtain ⟨σ1, H1, J, q⟩ := hsp
      exact ⟨σ1, H1, J.ofTry okX, q⟩
    | cont =>
      obtain ⟨σ1, H1, J, q⟩ := hsp
      exact ⟨σ1, H1, J.ofTry okX, q⟩
    | ret u1 =>
      obtain ⟨v1, σ1, H1, J, rv, q⟩ := hsp
      exact ⟨v1, σ1, H1, J.ofTry okX, rv, q⟩
end
/-! ### isinstance of an exception that a suite holds (it may have a dict of its own) -/
structure ExK (K : PySem.W.Frag) (C : Addr) : Prop where
  cl : (PySem.W.clsIn K C).isSome = true
  ga : PySem.W.findIn K (.ref C) "__getattribute__" = some (some (.builtin "BaseException.__getattribute__"))
  gt : PySem.W.findIn K (.ref C) "__getattr__" = some none
  sb : PySem.W.subIn K (.ref C) (.type "BaseException") = some true
  ca : PySem.W.findIn K (.ref C) "__class__" = some (some (.builtin "object.__class__"))
  gn : PySem.W.specialIn K (.builtin "object.__class__") "__get__" = some (some (.builtin "getset_descriptor.__get__"))
  tk : PySem.W.takesIn K (.builtin "object.__class__") = some true
  mo : PySem.W.mroIn K C (.type "object") = some true
/-- isinstance(e, c): a the exception, cls its class, d its dict -/
def rIsEx (K : PySem.W.Frag) (a : Addr) (cls : Value) (d : Option Addr) : List V → Hp → VK → Prop := fun xs H Q => ∃ (C : Addr) (c : V) (cv : Value) (b : Bool) (dd : Addr) (fs : List (Str × V)), cls = .ref C ∧ ExK K C ∧ xs = [.ref a, c] ∧ d = some dd ∧ H dd = some (.xd fs) ∧ ClsV c cv ∧ PySem.W.kitOne K (.ref C) cv = some b ∧ Q (.bl b) H
/-- isinstance(e, (c1, c2, ..)) -/
def rIsExT (K : PySem.W.Frag) (a : Addr) (cls : Value) (d : Option Addr) : List V → Hp → VK → Prop := fun xs H Q => ∃ (C : Addr) (tp : Addr) (cs : List V) (us : List Value) (b : Bool) (dd : Addr) (fs : List (Str × V)), cls = .ref C ∧ ExK K C ∧ xs = [.ref a, .ref tp] ∧ d = some dd ∧ H dd = some (.xd fs) ∧ H tp = some (.tup cs) ∧ Paired ClsV cs us ∧ PySem.W.kitAny K (.ref C) us = some b ∧ Q (.bl b) H
section
variable {X : Cx} {a C : Addr} {cls : Value} {d : Option Addr} {ob : Obj} {pn : List (Addr × Obj)}
theorem inst_here {pins : List (Addr × Obj)} {σ : L2.St} {H : Hp} {s : Shared} {dd : Addr} {fs : List (Str × V)} (hz : Zc (.ref C) d ob) (hf : ∃ vs, ob.data = .fields vs) (I : Inv (X.suite a ((a, ob) :: pn)) pins σ H s) (ed : d = some dd) (hd : H dd = some (.xd fs)) : ∃ od, PySem.W.InstAt s.heap a ob C (some od) := by
  subst ed
  obtain ⟨vs, hv⟩ := hf
  obtain ⟨got, _⟩ := I.pin (a, ob) (List.mem_append_left _ List.mem_cons_self)
  obtain ⟨mA, hns, _⟩ := (show ObjOk X.prog X.w H s.heap dd (.xd fs) from I.hok dd _ hd)
  obtain ⟨od, ho, _⟩ := lookIn_ns hns
  exact ⟨od, got, hz.1, by unfold PySem.W.notCls; rw [hv] <;> rfl, by rw [hz.2] <;> exact ho⟩
theorem call_isEx (hz : Zc cls d ob) (hf : ∃ vs, ob.data = .fields vs) : CallR (X.suite a ((a, ob) :: pn)) (.builtin "isinstance") (rIsEx X.K a cls d) := by
  intro pins s σ H xs us Q I r h
  obtain ⟨C, c, cv, b, dd, fs, rfl, T, rfl, ed, hd, hc, e, q⟩ := h
  obtain ⟨u1, u2, rfl, r1, r2⟩ := vals2 r
  cases (show u1 = Value.ref a from r1)
  have e2 := hc.eq r2
  subst e2
  obtain ⟨od, J⟩ := inst_here hz hf I ed hd
  exact PySem.W.kia_one (PySem.W.kitx_exc T.cl T.ga T.gt T.sb T.ca T.gn T.tk T.mo) I.kIn J e (fun z => nomatch z) fun tk => ⟨.bl b, H, I.tok tk, rfl, q⟩
theorem call_isExT (hz : Zc cls d ob) (hf : ∃ vs, ob.data = .fields vs) : CallR (X.suite a ((a, ob) :: pn)) (.builtin "isinstance") (rIsExT X.K a cls d) := by
  intro pins s σ H xs us Q I r h
  obtain ⟨C, tp, cs, ws, b, dd, fs, rfl, T, rfl, ed, hd, hT, hc, e, q⟩ := h
  obtain ⟨u1, u2, rfl, r1, r2⟩ := vals2 r
  cases (show u1 = Value.ref a from r1)
  cases (show u2 = Value.ref tp from r2)
  obtain ⟨od, J⟩ := inst_here hz hf I ed hd
  obtain ⟨_, its, rv, ot, g1, g2, n, g3⟩ := (show ObjOk X.prog X.w H s.heap tp (.tup cs) from I.hok tp _ hT)
  have e3 := ClsV.all hc rv
  subst e3
  obtain ⟨oc, odd, dt, sl⟩ := ot
  simp only at g2 g3
  subst g2 g3
  exact PySem.W.kia_tup (PySem.W.kitx_exc T.cl T.ga T.gt T.sb T.ca T.gn T.tk T.mo) I.kIn J g1 e (fun z => nomatch z) fun tk => ⟨.bl b, H, I.tok tk, rfl, q⟩
end
end EB

/-! EB2: enumerate over a tuple. -/
namespace EB
open PySem PySem.Spec PyProof.Rows L2 Evl
open AutoSeq1 (wpAny_loadPart')
theorem enumT_new (t : Addr) (ob : Obj) (xs : Array Value) (k : Nat) (hc : ob.cls = .type "tuple") (hd : ob.data = .seq xs k) :
    Meets (Builtin.«enumerate.__new__» ⟨[.type "enumerate", .ref t], []⟩) (fun _ R s => s.heap.get? t = some ob ∧
      R (.ok (.ret (.ref (s.heap.push { cls := .type "tuple_iterator", data := .fields #[.ref t, .int 0 0] }).objs.size)))
        { s with heap := (s.heap.push { cls := .type "tuple_iterator", data := .fields #[.ref t, .int 0 0] }).push { cls := .type "enumerate", data := .fields #[.none, .bool false, .ref s.heap.objs.size, rawInt 0, .none, .none] } }) :=
  .of_wp fun prog w A R s h => by
    obtain ⟨hp, g, d, tk, os⟩ := s
    obtain ⟨ht, h⟩ := h
    have sub_ := sub_enumerate
    have hT : Heap.IsTuple (Shared.heap ⟨hp, g, d, tk, os⟩) t xs := ⟨_, ht, hc, k, hd⟩
    wp_walk using wpAny_loadPart' ht
    refine wpAny_stack_any fun st => wpAny_pure ?_
    split
    · rename_i c _ _ _ _ _
      cases (c == Value.type "enumerate")
      · wp_walk using wpAny_loadPart' ht, wpAny_pyIter_tuple hT
        exact ⟨_, rfl, h⟩
      · wp_walk using wpAny_loadPart' ht, wpAny_pyIter_tuple hT
        exact ⟨_, rfl, h⟩
    · wp_walk using wpAny_loadPart' ht, wpAny_pyIter_tuple hT
      exact ⟨_, rfl, h⟩
section
variable {prog : Program} {w : World} {A : Around} {E : Value → Shared → Prop} {s : Shared}
theorem enumT_call {t : Addr} {xs : Array Value} {Q : Value → Shared → Prop} (hT : s.heap.IsTuple t xs)
    (fin : ∀ g, IsEnum g (s.heap.objs.size + 1) s.heap.objs.size 0 .none → g.IsTupleIter s.heap.objs.size t 0 → g.objs.size = s.heap.objs.size + 2 →
      (∀ b o, s.heap.get? b = some o → g.get? b = some o) → Q (.ref (s.heap.objs.size + 1)) { s with heap := g }) :
    wpAny (model prog w) A (call (.type "enumerate") [.ref t]) Q E s := by
  obtain ⟨ob, ht, hc, k, hd⟩ := hT
  refine callType_new F.called_enumerate (by decide) (F.typeCall_enumerate_1 _) (F.newCall_enumerate_1 _) (fun z => F.args_object_init_2 z _) F.entry_enumerate_new (enumT_new t ob xs k hc hd) ⟨ht, ?_⟩
  have sz : (s.heap.push { cls := .type "tuple_iterator", data := .fields #[.ref t, .int 0 0] }).objs.size = s.heap.objs.size + 1 := Heap.size_push ..
  show _ ∧ _
  rw [sz]
  have en : IsEnum ((s.heap.push { cls := .type "tuple_iterator", data := .fields #[.ref t, .int 0 0] }).push
      { cls := .type "enumerate", data := .fields #[.none, .bool false, .ref s.heap.objs.size, rawInt 0, .none, .none] }) (s.heap.objs.size + 1) s.heap.objs.size 0 .none := by
    have z := Heap.get?_push_size (s.heap.push { cls := .type "tuple_iterator", data := .fields #[.ref t, .int 0 0] })
      (o := { cls := .type "enumerate", data := .fields #[.none, .bool false, .ref s.heap.objs.size, rawInt 0, .none, .none] }) rfl
    rw [sz] at z
    exact z
  refine ⟨⟨_, en, rfl⟩, fin _ en ⟨_, Heap.get?_push_of_some _ (Heap.get?_push_size _ rfl), rfl, rfl⟩ (by rw [Heap.size_push, sz]) fun b o x => Heap.get?_push_of_some _ (Heap.get?_push_of_some _ x)⟩
end
/-- the tuple at a, each item in a new pair -/
def IteT (K : PySem.W.Frag) (a : Addr) : It :=
  ⟨fun i H => ∃ (xs : List V) (x : V), SqT K H a xs ∧ xs[i]? = some x, fun i H v H' => ∃ T x, v = .ref T ∧ H T = none ∧ H' = upd H T (.tup [.int (i : Nat), x]) ∧ ∀ xs, SqT K H a xs → xs[i]? = some x, fun i H => ∃ xs : List V, SqT K H a xs ∧ xs.length ≤ i⟩
theorem tup_inj {X : Cx} {pins : List (Addr × Obj)} {σ : L2.St} {H : Hp} {s : Shared} {a : Addr} {xs ys : List V} (I : Inv X pins σ H s) (h : SqT X.K H a xs) (h2 : SqT X.K H a ys) : xs = ys := by
  first
    | exact I.tuple_inj h h2
    | exact I.tup_inj h h2
theorem turn_enumT {P : Program} {w : World} {K : PySem.W.Frag} {elts : List Expr} {kk : Nat} {tpos : Pos} (a e it : Addr) :
    Turn P w K (.Tuple elts kk tpos) (IteT K a) [e, it] e (fun i h => (∃ old, IsEnum h e it ((i : Nat) : Int) old) ∧ h.IsTupleIter it a i ∧ e ≠ it) where
  mem := by simp
  obj := fun i h st b hb => by
    obtain ⟨⟨old, he⟩, ⟨o, ho, hc, hd⟩, _⟩ := st
    have z : b = e ∨ b = it := by simpa using hb
    rcases z with z | z
    · rw [z]
      exact ⟨_, he, fun v q => nomatch q⟩
    · rw [z]
      exact ⟨o, ho, fun v q => by rw [hd] at q <;> cases q⟩
  keep := fun i h g st k => let ⟨⟨old, he⟩, hi, hne⟩ := st; ⟨⟨old, k e (by simp) _ he⟩, hi.at fun o q => k it (by simp) o q, hne⟩
  item := by
    intro X hP hw hK hcalm i pins s σ H E I hf st hg
    subst hP hw hK
    obtain ⟨⟨old, he⟩, hit, hne⟩ := st
    obtain ⟨xs, x, hq, hx⟩ := hg
    obtain ⟨its, rv, p, hz⟩ := I.tuple hq
    obtain ⟨u, hu, ru⟩ := rv.get hx
    have eLt : e < s.heap.objs.size := Heap.lt_size he
    have iLt : it < s.heap.objs.size := by
      obtain ⟨_, q, _⟩ := hit
      exact Heap.lt_size q
    have hT : s.heap.IsTuple a its.toArray := p
    have nea : a ≠ it := by
      intro z
      obtain ⟨o1, h1, c1, _⟩ := hit
      obtain ⟨o2, h2, c2, _⟩ := hT
      rw [z, h1] at h2
      cases h2
      rw [c1] at c2
      exact absurd c2 (by decide)
    have nef : e ∉ [it, a] := by
      intro z
      rcases List.mem_cons.mp z with z | z
      · exact hne z
      · have z' : e = a := by simpa using z
        obtain ⟨o2, h2, c2, _⟩ := hT
        rw [← z', he] at h2
        cases h2
        exact absurd (show Value.type "enumerate" = Value.type "tuple" from c2) (by decide)
    have ilt : i < its.toArray.size := by
      have := (List.getElem?_eq_some_iff.mp hu).1
      simpa using this
    refine wpAny_pyNext_enum_itemD (PySem.Draws.tuple (A := X.A.in1) (I.ok.hd hcalm) it a nea its.toArray) he ⟨hit, hT⟩ ilt hne nef fun y g tk hy ho hst hTT hsz hk => ?_
    have ey : y = u := by
      have z : its.toArray[i]? = some u := by simpa using hu
      have hy' : its.toArray[i]? = some y := hy
      rw [z] at hy'
      exact (Option.some.inj hy').symm
    subst ey
    refine ⟨_, rfl, wpAny_letOwnedTupleGo_enum (s := { s with heap := g, toks := tk + 1 }) ho fun g2 he2 sb => ?_⟩
    have hT2 : g2.get? s.heap.objs.size = some { cls := .type "tuple", data := .seq #[.int i tk, y] } := (sb.2 _ (Nat.ne_of_gt eLt)).trans hTT
    have new : ObjOk X.prog X.w (upd H s.heap.objs.size (.tup [.int (i : Nat), x])) g2 s.heap.objs.size (.tup [.int (i : Nat), x]) :=
      ⟨by show 2 ≤ sizeLine; decide, [.int i tk, y], .cons ⟨_, rfl⟩ (.cons ru .nil), ⟨_, hT2, rfl, _, rfl⟩⟩
    have I1 : Inv X pins σ (upd H s.heap.objs.size (.tup [.int (i : Nat), x])) { s with heap := g2, toks := tk + 1 } :=
      I.turnedNew (ch := [e, it]) (fun b ob hb q => (sb.2 b (fun z => hb (by simp [z]))).trans (hk b ob (fun z => hb (by simp [z])) (fun z => hb (by simp [z])) q)) hf (Nat.le_refl _) new
    refine ⟨.ref s.heap.objs.size, _, I1, rfl, ⟨_, x, rfl, I.hok.fresh (Nat.le_refl _), rfl, fun ys hy => by rw [tup_inj I hy hq] <;> exact hx⟩, ⟨⟨y, ?_⟩, hst.1.at fun o q => (sb.2 it (Ne.symm hne)).trans q, hne⟩, fun b hb => ?_⟩
    · have e1 : ((i + 1 : Nat) : Int) = (i : Int) + 1 := by omega
      rw [e1]
      exact he2
    · have hb2 : b < s.heap.objs.size := by
        have z : b = e ∨ b = it := by simpa using hb
        rcases z with z | z
        · rw [z]; exact eLt
        · rw [z]; exact iLt
      rw [upd_ne (Nat.ne_of_lt hb2)]
      exact (hf b hb).1
  done := by
    intro X hP hw hK hcalm i pins s σ H E I hf st hg
    subst hP hw hK
    obtain ⟨⟨old, he⟩, hit, hne⟩ := st
    obtain ⟨xs, hq, hx⟩ := hg
    obtain ⟨its, rv, p, hz⟩ := I.tuple hq
    obtain ⟨f0, f1, f2, f3, f4, f5⟩ := hf it (by simp)
    have hl := rv.length
    have hT : s.heap.IsTuple a its.toArray := p
    have nea : a ≠ it := by
      intro z
      obtain ⟨o1, h1, c1, _⟩ := hit
      obtain ⟨o2, h2, c2, _⟩ := hT
      rw [z, h1] at h2
      cases h2
      rw [c1] at c2
      exact absurd c2 (by decide)
    unfold pyNext
    have hTy : s.TypeIs (.ref e) "enumerate" := ⟨_, he, rfl⟩
    refine wpAny_bind (wpAny_attempt (wpAny_callSpecial?_slot (name := Str.ofString "__next__") hTy F.slot_enumerate_next
      (wpAny_call_entry F.slot_enumerate_next hTy F.entry_enumerate_next ?_ (F.args_enumerate_next_1 _))))
    show wpAny _ _ (field (.ref e) 2 >>= _) _ _ _
    refine wpAny_bind (wpAny_field he rfl (x := .ref it) rfl ?_)
    refine wpAny_bind (wpAny_nextOf_tuple_end (I.ok.hd hcalm) hit hT (by simp; omega) fun g x he' hx' => ?_)
    obtain ⟨o, ho, hc⟩ := hx'
    refine wpAny_bind (wpAny_isInstance (T := "StopIteration") (b := true) ⟨o, ho, hc⟩ isSubtype_stop ?_)
    exact wpAny_pure ⟨rfl, I.turned (t' := s.toks) (fun b o hb q => he' b o hb q) f0 f1 f3 f4 f5⟩
  self := fun A i s Q E st h => let ⟨⟨_, he⟩, _⟩ := st; wpAny_pyIter_enum he h
def iEnumT (K : PySem.W.Frag) (ta : TA) : TI := fun σ H R => ta σ H fun vs H1 => ∃ a xs, vs = [.ref a] ∧ SqT K H1 a xs ∧ R (IteT K a) H1
theorem pi_enumT {X : Cx} {e : Expr} {ta : TA} {p pos tpos : Pos} {elts : List Expr} {kk : Nat} (hg : Gl X "enumerate") (hm : X.mg "enumerate" = none) (ha : PA X [e] ta) (hs : starEach [e] X.env = [(false, eval e X.env)] := by rfl) :
    PI X (.Tuple elts kk tpos) (.Call (.Name "enumerate" p) [e] [] pos) (iEnumT X.K ta) := by
  refine ⟨fun pins s σ H R I h => ?_⟩
  refine Call_ (ld_blt I hg hm boot_enumerate (PyProof.Rows.callWith_type1 (thn (ha.run pos pins s σ H _ I h) fun us s1 ⟨vs, H1, I1, r1, a, xs, ex, hq, q⟩ => ?_) hs rfl))
  subst ex
  cases r1 with
  | cons r rr =>
    cases rr
    cases r
    obtain ⟨its, rv, p', hz⟩ := I1.tuple hq
    have hT : s1.heap.IsTuple a its.toArray := p'
    refine enumT_call hT fun g he hit hsz hk => wpAny_pyIter_enum he ?_
    have I2 : Inv X pins σ H1 { s1 with heap := g } := I1.kept (t' := s1.toks) hk
    refine ⟨s1.heap.objs.size + 1, [s1.heap.objs.size + 1, s1.heap.objs.size], _, _, H1, rfl, I2, turn_enumT a (s1.heap.objs.size + 1) s1.heap.objs.size, ⟨⟨.none, he⟩, hit, Nat.succ_ne_self _⟩, fun b hb => ?_, q⟩
    have hle : s1.heap.objs.size ≤ b := by
      have z : b = s1.heap.objs.size + 1 ∨ b = s1.heap.objs.size := by simpa using hb
      rcases z with z | z
      · rw [z]
        exact Nat.le_add_right _ _
      · rw [z]
        exact Nat.le_refl _
    exact I1.fpOk hle (I1.hok.fresh hle)
end EB

/-! EB3: what is known of the slots (Kn), what an expression comes to (JE), a test (JT), arguments (JA), a statement (JS). -/
namespace EB
open PySem PySem.Spec PyProof.Rows L2 Evl
/-- what is known of a value; it stays known while the heap grows -/
structure PV where
  p : Hp → V → Prop
  mn : ∀ {H H' : Hp} {v : V}, Ex H H' → p H v → p H' v
abbrev Kn := List (Option PV)
mutual
theorem dp_mono {K : PySem.W.Frag} {H H' : Hp} (e : Ex H H') : ∀ {v : V} {d : PyData}, Dp K H v d → Dp K H' v d
  | _, _, .non => .non
  | _, _, .bl b => .bl b
  | _, _, .int i => .int i
  | _, _, .str x => .str x
  | _, _, .lst h a => .lst (ex_l e h) (dpAll_mono e a)
  | _, _, .tup h a => .tup (ex_t e h) (dpAll_mono e a)
theorem dpAll_mono {K : PySem.W.Frag} {H H' : Hp} (e : Ex H H') : ∀ {vs : List V} {ds : List PyData}, DpAll K H vs ds → DpAll K H' vs ds
  | _, _, .nil => .nil
  | _, _, .cons h t => .cons (dp_mono e h) (dpAll_mono e t)
end
def dv (K : PySem.W.Frag) (d : PyData) : PV := ⟨fun H v => Dp K H v d, fun e h => dp_mono e h⟩
/-- exactly this value -/
def xv (v : V) : PV := ⟨fun _ u => u = v, fun _ h => h⟩
theorem dp_int {K : PySem.W.Frag} {H : Hp} {v : V} {i : Int} (h : Dp K H v (.int i)) : v = .int i := by cases h; rfl
theorem dp_bl {K : PySem.W.Frag} {H : Hp} {v : V} {b : Bool} (h : Dp K H v (.bool b)) : v = .bl b := by cases h; rfl
theorem dp_str {K : PySem.W.Frag} {H : Hp} {v : V} {x : Str} (h : Dp K H v (.str x)) : v = .str x := by cases h; rfl
theorem dp_tup {K : PySem.W.Frag} {H : Hp} {v : V} {ds : List PyData} (h : Dp K H v (.tuple ds)) : ∃ a xs, v = .ref a ∧ SqT K H a xs ∧ DpAll K H xs ds := by
  cases h with
  | tup h a => exact ⟨_, _, rfl, h, a⟩
theorem dp_lst {K : PySem.W.Frag} {H : Hp} {v : V} {ds : List PyData} (h : Dp K H v (.list ds)) : ∃ a xs, v = .ref a ∧ SqL K H a xs ∧ DpAll K H xs ds := by
  cases h with
  | lst h a => exact ⟨_, _, rfl, h, a⟩
theorem dpLength {K : PySem.W.Frag} {H : Hp} : ∀ {vs : List V} {ds : List PyData}, DpAll K H vs ds → vs.length = ds.length
  | _, _, .nil => rfl
  | _, _, .cons _ t => congrArg (· + 1) (dpLength t)
theorem dpGet {K : PySem.W.Frag} {H : Hp} : ∀ {vs : List V} {ds : List PyData} {i : Nat} {d : PyData}, DpAll K H vs ds → ds[i]? = some d → ∃ v, vs[i]? = some v ∧ Dp K H v d
  | _, _, _, _, .nil, h => by simp at h
  | _, _, 0, _, .cons h _, e => by
    simp at e
    subst e
    exact ⟨_, rfl, h⟩
  | _, _, i + 1, _, .cons _ t, e => by
    obtain ⟨v, h1, h2⟩ := dpGet (i := i) t (by simpa using e)
    exact ⟨v, by simpa using h1, h2⟩
theorem dpApp {K : PySem.W.Frag} {H : Hp} : ∀ {vs us : List V} {ds es : List PyData}, DpAll K H vs ds → DpAll K H us es → DpAll K H (vs ++ us) (ds ++ es)
  | _, _, _, _, .nil, s => s
  | _, _, _, _, .cons h t, s => .cons h (dpApp t s)
theorem dpTake {K : PySem.W.Frag} {H : Hp} : ∀ {vs : List V} {ds : List PyData} (n : Nat), DpAll K H vs ds → DpAll K H (vs.take n) (ds.take n)
  | _, _, 0, _ => .nil
  | _, _, _ + 1, .nil => .nil
  | _, _, n + 1, .cons h t => .cons h (dpTake n t)
theorem dpDrop {K : PySem.W.Frag} {H : Hp} : ∀ {vs : List V} {ds : List PyData} (n : Nat), DpAll K H vs ds → DpAll K H (vs.drop n) (ds.drop n)
  | _, _, 0, h => h
  | _, _, _ + 1, .nil => .nil
  | _, _, n + 1, .cons _ t => dpDrop n t
theorem dpAll_ints {K : PySem.W.Frag} {H : Hp} : ∀ (ns : List Int), DpAll K H (ns.map V.int) (ns.map PyData.int)
  | [] => .nil
  | n :: r => .cons (.int n) (dpAll_ints r)
theorem dpAll_ints_eq {K : PySem.W.Frag} {H : Hp} : ∀ {vs : List V} {ns : List Int}, DpAll K H vs (ns.map PyData.int) → vs = ns.map V.int
  | _, [], h => by cases h; rfl
  | _, n :: r, h => by
    cases h with
    | cons h1 h2 => rw [dp_int h1, dpAll_ints_eq h2] <;> rfl
/-! ### the slots -/
def Sl (H : Hp) (σ : L2.St) (ps : Kn) : Prop := σ.length = ps.length ∧ ∀ (i : Nat) (P : PV), ps[i]? = some (some P) → ∃ v, σ[i]? = some (some v) ∧ P.p H v
theorem Sl.mono {H H' : Hp} {σ : L2.St} {ps : Kn} (S : Sl H σ ps) (e : Ex H H') : Sl H' σ ps := ⟨S.1, fun i P h => by
  obtain ⟨v, h1, h2⟩ := S.2 i P h
  exact ⟨v, h1, P.mn e h2⟩⟩
theorem Sl.set {H : Hp} {σ : L2.St} {ps : Kn} {P : PV} {v : V} (S : Sl H σ ps) (i : Nat) (h : P.p H v) : Sl H (σ.set i (some v)) (ps.set i (some P)) := by
  refine ⟨by rw [List.length_set, List.length_set, S.1], fun j R hj => ?_⟩
  by_cases e : i = j
  · subst e
    have hl : i < ps.length := by
      have := (List.getElem?_eq_some_iff.mp hj).1
      simpa using this
    rw [List.getElem?_set_self hl] at hj
    cases hj
    exact ⟨v, List.getElem?_set_self (by rw [S.1]; exact hl), h⟩
  · rw [List.getElem?_set_ne e] at hj
    obtain ⟨u, h1, h2⟩ := S.2 j R hj
    exact ⟨u, by rw [List.getElem?_set_ne e]; exact h1, h2⟩
theorem Sl.forget {H : Hp} {σ : L2.St} {ps : Kn} (S : Sl H σ ps) (i : Nat) (x : Option V) : Sl H (σ.set i x) (ps.set i none) := by
  refine ⟨by rw [List.length_set, List.length_set, S.1], fun j R hj => ?_⟩
  by_cases e : i = j
  · subst e
    have hl : i < ps.length := by
      have := (List.getElem?_eq_some_iff.mp hj).1
      simpa using this
    rw [List.getElem?_set_self hl] at hj
    cases hj
  · rw [List.getElem?_set_ne e] at hj
    obtain ⟨u, h1, h2⟩ := S.2 j R hj
    exact ⟨u, by rw [List.getElem?_set_ne e]; exact h1, h2⟩
/-- less is known -/
def Weak : Kn → Kn → Prop
  | [], [] => True
  | p :: ps, q :: qs => (q = none ∨ q = p) ∧ Weak ps qs
  | _, _ => False
theorem Weak.rfl_ : ∀ ps : Kn, Weak ps ps
  | [] => trivial
  | _ :: r => ⟨.inr rfl, Weak.rfl_ r⟩
theorem Weak.len : ∀ {ps qs : Kn}, Weak ps qs → ps.length = qs.length
  | [], [], _ => rfl
  | _ :: _, _ :: _, h => congrArg (· + 1) (Weak.len h.2)
theorem Weak.get : ∀ {ps qs : Kn} {i : Nat} {P : PV}, Weak ps qs → qs[i]? = some (some P) → ps[i]? = some (some P)
  | [], [], _, _, _, e => by simp at e
  | p :: ps, q :: qs, 0, P, h, e => by
    simp at e ⊢
    rcases h.1 with z | z
    · rw [z] at e; cases e
    · rw [← z]; exact e
  | p :: ps, q :: qs, i + 1, P, h, e => by
    simp at e ⊢
    exact Weak.get h.2 e
theorem Sl.weak {H : Hp} {σ : L2.St} {ps qs : Kn} (S : Sl H σ ps) (w : Weak ps qs) : Sl H σ qs := ⟨by rw [S.1, w.len], fun i P h => S.2 i P (w.get h)⟩
/-- known of several values, one after the other -/
inductive AllP (H : Hp) : List V → List PV → Prop
  | nil : AllP H [] []
  | cons {v : V} {vs : List V} {P : PV} {Ps : List PV} : P.p H v → AllP H vs Ps → AllP H (v :: vs) (P :: Ps)
theorem AllP.mono {H H' : Hp} (e : Ex H H') : ∀ {vs : List V} {Ps : List PV}, AllP H vs Ps → AllP H' vs Ps
  | _, _, .nil => .nil
  | _, _, .cons h t => .cons (PV.mn _ e h) (AllP.mono e t)
theorem AllP.length {H : Hp} : ∀ {vs : List V} {Ps : List PV}, AllP H vs Ps → vs.length = Ps.length
  | _, _, .nil => rfl
  | _, _, .cons _ t => congrArg (· + 1) (AllP.length t)
theorem AllP.dv {K : PySem.W.Frag} {H : Hp} : ∀ {vs : List V} {ds : List PyData}, AllP H vs (ds.map (dv K)) → DpAll K H vs ds
  | _, [], h => by cases h; exact .nil
  | _, d :: r, h => by
    cases h with
    | cons h1 h2 => exact .cons h1 (AllP.dv h2)
theorem AllP.of_dv {K : PySem.W.Frag} {H : Hp} : ∀ {vs : List V} {ds : List PyData}, DpAll K H vs ds → AllP H vs (ds.map (EB.dv K))
  | _, _, .nil => .nil
  | _, _, .cons h t => .cons h (AllP.of_dv t)
theorem AllP.get {H : Hp} : ∀ {vs : List V} {Ps : List PV} {i : Nat} {P : PV}, AllP H vs Ps → Ps[i]? = some P → ∃ v, vs[i]? = some v ∧ P.p H v
  | _, _, _, _, .nil, e => by simp at e
  | _, _, 0, _, .cons h _, e => by
    simp at e
    subst e
    exact ⟨_, rfl, h⟩
  | _, _, i + 1, _, .cons _ t, e => by
    obtain ⟨v, h1, h2⟩ := AllP.get (i := i) t (by simpa using e)
    exact ⟨v, by simpa using h1, h2⟩
theorem AllP.app {H : Hp} : ∀ {vs us : List V} {Ps Qs : List PV}, AllP H vs Ps → AllP H us Qs → AllP H (vs ++ us) (Ps ++ Qs)
  | _, _, _, _, .nil, s => s
  | _, _, _, _, .cons h t, s => .cons h (AllP.app t s)
def entry (N : List Str) (Ps : List PV) : Kn := Ps.map some ++ List.replicate (N.length - Ps.length) none
theorem Sl.start {H : Hp} {N : List Str} {vs : List V} {Ps : List PV} (h : AllP H vs Ps) : Sl H (L2.start N vs) (entry N Ps) := by
  refine ⟨by unfold L2.start entry; simp [h.length], fun i P e => ?_⟩
  unfold entry at e
  by_cases hi : i < Ps.length
  · rw [List.getElem?_append_left (by simpa using hi)] at e
    rw [List.getElem?_map] at e
    cases q : Ps[i]? with
    | none => rw [q] at e; simp at e
    | some R =>
      rw [q] at e
      have : R = P := by simpa using e
      subst this
      obtain ⟨v, h1, h2⟩ := h.get q
      refine ⟨v, ?_, h2⟩
      unfold L2.start
      rw [List.getElem?_append_left (by simp [h.length]; exact hi), List.getElem?_map, h1]
      rfl
  · rw [List.getElem?_append_right (by simpa using hi)] at e
    have := List.mem_of_getElem? e
    have := List.eq_of_mem_replicate this
    cases this
/-! ### growing: F, where the facts are told; H, the heap -/
structure Gr (F H F' H' : Hp) : Prop where
  ff : Ex F F'
  hh : Ex H H'
  fh : Ex F' H'
  nw : ∀ a, H a ≠ none → F a = none → F' a = none
theorem Gr.refl {F H : Hp} (fh : Ex F H) : Gr F H F H := ⟨Ex.refl _, Ex.refl _, fh, fun _ _ h => h⟩
theorem Gr.trans {F H F1 H1 F2 H2 : Hp} (a : Gr F H F1 H1) (b : Gr F1 H1 F2 H2) : Gr F H F2 H2 := ⟨a.ff.trans b.ff, a.hh.trans b.hh, b.fh, fun x hx hf => b.nw x (fun z => by
  have := fresh_back a.hh z
  exact hx this) (a.nw x hx hf)⟩
theorem ex_upd {F H : Hp} {p : Addr} {o : HO} (fh : Ex F H) (hp : H p = none) : Ex (upd F p o) (upd H p o) := fun a u e => by
  by_cases z : a = p
  · subst z
    rw [upd_same] at e ⊢
    exact e
  · rw [upd_ne z] at e ⊢
    exact fh a u e
theorem Gr.new {F H : Hp} {p : Addr} {o : HO} (fh : Ex F H) (hp : H p = none) : Gr F H (upd F p o) (upd H p o) := ⟨Ex.new (fresh_back fh hp), Ex.new hp, ex_upd fh hp, fun a ha hf => by
  have : a ≠ p := fun z => by
    subst z
    exact ha hp
  rw [upd_ne this]
  exact hf⟩
/-- the heap alone grows -/
theorem Gr.heap {F H H' : Hp} (fh : Ex F H) (e : Ex H H') : Gr F H F H' := ⟨Ex.refl _, e, fh.trans e, fun _ _ h => h⟩
/-! ### errors and outcomes -/
inductive EC | WrongCount | TooFar | NoPoint | Repeated | OnLine | NoSize | WrongRow | WrongLine | OnPlane | Within | NotTouched | NotBowl
  deriving DecidableEq
def EC.fld : EC → Str
  | .WrongCount => "count"
  | .TooFar => "value"
  | .NoPoint => "number"
  | .Repeated => "number"
  | .OnLine => "numbers"
  | .NoSize => "size"
  | .WrongRow => "form"
  | .WrongLine => "line"
  | .OnPlane => "numbers"
  | .Within => "triangle"
  | .NotTouched => "triangle"
  | .NotBowl => "triangle"
structure Er where
  c : EC
  val : PyData
inductive Out
  | ok (P : PV)
  | er (e : Er)
/-- what is wanted of a call that ends in o; M: where the classes stand -/
def Then (K : PySem.W.Frag) (M : EC → Addr) (F H : Hp) (Q : VK) (E : XK) : Out → Prop
  | .ok P => ∀ v F' H', Gr F H F' H' → P.p F' v → Q v H'
  | .er e => ∀ d u F' H', Gr F H F' H' → H d = none → H' d = some (.xd [(e.c.fld, u)]) → Dp K F' u e.val → E (.ref (M e.c)) (some d) H'
theorem Then.step {K : PySem.W.Frag} {M : EC → Addr} {F H F1 H1 : Hp} {Q : VK} {E : XK} {o : Out} (e : Gr F H F1 H1) (h : Then K M F H Q E o) : Then K M F1 H1 Q E o := by
  cases o with
  | ok P => exact fun v F' H' e2 p => h v F' H' (e.trans e2) p
  | er x => exact fun d u F' H' e2 n a b => h d u F' H' (e.trans e2) (fresh_back e.hh n) a b
/-- a def's promise: the arguments' kinds, the domain, the outcome -/
def Prm (K : PySem.W.Frag) (M : EC → Addr) {α : Type} (args : α → List PV) (dom : α → Prop) (out : α → Out) : Sp :=
  fun vs H Q E => ∃ a F, Ex F H ∧ AllP F vs (args a) ∧ dom a ∧ Then K M F H Q E (out a)
section
variable {K : PySem.W.Frag} {M : EC → Addr} {W : WX} {ps : Kn}
def JE (K : PySem.W.Frag) (M : EC → Addr) (W : WX) (te : TE) (ps : Kn) (o : Out) : Prop := ∀ σ F H Q, Ex F H → Sl F σ ps → Then K M F H Q (WE W σ) o → te σ H Q
abbrev JV (K : PySem.W.Frag) (M : EC → Addr) (W : WX) (te : TE) (ps : Kn) (P : PV) : Prop := JE K M W te ps (.ok P)
abbrev JD (K : PySem.W.Frag) (M : EC → Addr) (W : WX) (te : TE) (ps : Kn) (d : PyData) : Prop := JE K M W te ps (.ok (dv K d))
def JT (K : PySem.W.Frag) (M : EC → Addr) (W : WX) (tt : TT) (ps : Kn) (b : Bool) : Prop := ∀ σ F H (Q : Bool → Hp → Prop), Ex F H → Sl F σ ps → (∀ F' H', Gr F H F' H' → Q b H') → tt σ H Q
def JA (K : PySem.W.Frag) (M : EC → Addr) (W : WX) (ta : TA) (ps : Kn) (Ps : List PV) : Prop := ∀ σ F H (Q : List V → Hp → Prop), Ex F H → Sl F σ ps → (∀ vs F' H', Gr F H F' H' → AllP F' vs Ps → Q vs H') → ta σ H Q
variable {ta tb tc te : TE} {t u : TT}
theorem JE.go {P : PV} (h : JV K M W te ps P) {σ : L2.St} {F H : Hp} {Q : VK} (fh : Ex F H) (S : Sl F σ ps) (k : ∀ v F' H', Gr F H F' H' → P.p F' v → Q v H') : te σ H Q := h σ F H Q fh S k
theorem je_var {i : Nat} {P : PV} (h : ps[i]? = some (some P)) : JV K M W (tVar i) ps P := fun σ F H Q fh S k => by
  obtain ⟨v, h1, h2⟩ := S.2 i P h
  exact ⟨v, h1, k v F H (Gr.refl fh) h2⟩
theorem je_int {i : Int} : JD K M W (tC (.int i)) ps (.int i) := fun σ F H Q fh S k => k _ F H (Gr.refl fh) (.int i)
theorem je_str {x : Str} : JD K M W (tC (.str x)) ps (.str x) := fun σ F H Q fh S k => k _ F H (Gr.refl fh) (.str x)
theorem je_bl {b : Bool} : JD K M W (tC (.bl b)) ps (.bool b) := fun σ F H Q fh S k => k _ F H (Gr.refl fh) (.bl b)
theorem je_non : JD K M W (tC .non) ps .none := fun σ F H Q fh S k => k _ F H (Gr.refl fh) .non
theorem je_x {v : V} : JV K M W (tC v) ps (xv v) := fun σ F H Q fh S k => k _ F H (Gr.refl fh) rfl
theorem je_weak {P R : PV} (h : JV K M W te ps P) (i : ∀ H v, P.p H v → R.p H v) : JV K M W te ps R := fun σ F H Q fh S k => h.go fh S fun v F' H' e p => k v F' H' e (i F' v p)
/-- two operands that are known, an operation on values -/
theorem je_op {r : R2} {P R S' : PV} (ha : JV K M W ta ps P) (hb : JV K M W tb ps R) (hr : ∀ x y F H, Ex F H → P.p F x → R.p F y → ∀ Q : VK, (∀ v F' H', Gr F H F' H' → S'.p F' v → Q v H') → r x y H Q) : JV K M W (tOp r ta tb) ps S' := fun σ F H Q fh S k =>
  ha.go fh S fun x F1 H1 e1 p => hb.go e1.fh (S.mono e1.ff) fun y F2 H2 e2 q => hr x y F2 H2 e2.fh (P.mn e2.ff p) q Q fun v F3 H3 e3 s => k v F3 H3 ((e1.trans e2).trans e3) s
theorem je_un {r : V → Hp → VK → Prop} {P R : PV} (ha : JV K M W ta ps P) (hr : ∀ x F H, Ex F H → P.p F x → ∀ Q : VK, (∀ v F' H', Gr F H F' H' → R.p F' v → Q v H') → r x H Q) : JV K M W (tUn r ta) ps R := fun σ F H Q fh S k =>
  ha.go fh S fun x F1 H1 e1 p => hr x F1 H1 e1.fh p Q fun v F2 H2 e2 s => k v F2 H2 (e1.trans e2) s
/-- two ints -/
theorem je_ii0 {g : Int → Int → V} {i j : Int} {d : PyData} (ha : JD K M W ta ps (.int i)) (hb : JD K M W tb ps (.int j)) (hd : ∀ H, Dp K H (g i j) d) : JD K M W (tOp (rI0 g) ta tb) ps d :=
  je_op ha hb fun x y F H fh p q Q k => ⟨i, j, dp_int p, dp_int q, k _ F H (Gr.refl fh) (hd F)⟩
theorem je_iiC {C : Int → Int → Prop} {g : Int → Int → V} {i j : Int} {d : PyData} (ha : JD K M W ta ps (.int i)) (hb : JD K M W tb ps (.int j)) (hc : C i j) (hd : ∀ H, Dp K H (g i j) d) : JD K M W (tOp (rI C g) ta tb) ps d :=
  je_op ha hb fun x y F H fh p q Q k => ⟨i, j, dp_int p, dp_int q, hc, k _ F H (Gr.refl fh) (hd F)⟩
theorem je_add {i j : Int} (ha : JD K M W ta ps (.int i)) (hb : JD K M W tb ps (.int j)) : JD K M W (tOp (rI0 fun i j => .int (i + j)) ta tb) ps (.int (i + j)) := je_ii0 ha hb fun _ => .int _
theorem je_sub {i j : Int} (ha : JD K M W ta ps (.int i)) (hb : JD K M W tb ps (.int j)) : JD K M W (tOp (rI0 fun i j => .int (i - j)) ta tb) ps (.int (i - j)) := je_ii0 ha hb fun _ => .int _
theorem je_mul {i j : Int} (ha : JD K M W ta ps (.int i)) (hb : JD K M W tb ps (.int j)) (hc : CMul i j) : JD K M W (tOp (rI CMul fun i j => .int (i * j)) ta tb) ps (.int (i * j)) := je_iiC ha hb hc fun _ => .int _
theorem je_mod {i j : Int} (ha : JD K M W ta ps (.int i)) (hb : JD K M W tb ps (.int j)) (hc : 0 < j) : JD K M W (tOp (rI (fun _ j => 0 < j) fun i j => .int (i % j)) ta tb) ps (.int (i % j)) := je_iiC (C := fun _ j => 0 < j) ha hb hc fun _ => .int _
theorem je_div {i j : Int} (ha : JD K M W ta ps (.int i)) (hb : JD K M W tb ps (.int j)) (hc : CDiv i j) : JD K M W (tOp (rI CDiv fun i j => .int (i / j)) ta tb) ps (.int (i / j)) := je_iiC ha hb hc fun _ => .int _
theorem je_pow {i j : Int} (ha : JD K M W ta ps (.int i)) (hb : JD K M W tb ps (.int j)) (hc : CPow i j) : JD K M W (tOp (rI CPow fun i j => .int (i ^ j.toNat)) ta tb) ps (.int (i ^ j.toNat)) := je_iiC ha hb hc fun _ => .int _
theorem je_lt {i j : Int} (ha : JD K M W ta ps (.int i)) (hb : JD K M W tb ps (.int j)) : JD K M W (tOp (rI0 fun i j => .bl (decide (i < j))) ta tb) ps (.bool (decide (i < j))) := je_ii0 ha hb fun _ => .bl _
theorem je_le {i j : Int} (ha : JD K M W ta ps (.int i)) (hb : JD K M W tb ps (.int j)) : JD K M W (tOp (rI0 fun i j => .bl (decide (i ≤ j))) ta tb) ps (.bool (decide (i ≤ j))) := je_ii0 ha hb fun _ => .bl _
theorem je_gt {i j : Int} (ha : JD K M W ta ps (.int i)) (hb : JD K M W tb ps (.int j)) : JD K M W (tOp (rI0 fun i j => .bl (decide (j < i))) ta tb) ps (.bool (decide (j < i))) := je_ii0 ha hb fun _ => .bl _
theorem je_ge {i j : Int} (ha : JD K M W ta ps (.int i)) (hb : JD K M W tb ps (.int j)) : JD K M W (tOp (rI0 fun i j => .bl (decide (j ≤ i))) ta tb) ps (.bool (decide (j ≤ i))) := je_ii0 ha hb fun _ => .bl _
theorem je_eqI {i j : Int} (ha : JD K M W ta ps (.int i)) (hb : JD K M W tb ps (.int j)) : JD K M W (tOp rEq ta tb) ps (.bool (decide (i = j))) := je_op ha hb fun x y F H fh p q Q k => by
  rw [dp_int p, dp_int q]
  refine ⟨rfl, ?_⟩
  have e : decide (V.int i = V.int j) = decide (i = j) := by
    by_cases h : i = j
    · subst h; simp
    · simp [h]
  rw [e]
  exact k _ F H (Gr.refl fh) (.bl _)
theorem je_neI {i j : Int} (ha : JD K M W ta ps (.int i)) (hb : JD K M W tb ps (.int j)) : JD K M W (tOp rNe ta tb) ps (.bool (!decide (i = j))) := je_op ha hb fun x y F H fh p q Q k => by
  rw [dp_int p, dp_int q]
  refine ⟨rfl, ?_⟩
  have e : decide (V.int i = V.int j) = decide (i = j) := by
    by_cases h : i = j
    · subst h; simp
    · simp [h]
  rw [e]
  exact k _ F H (Gr.refl fh) (.bl _)
theorem je_eqS {x y : Str} (ha : JD K M W ta ps (.str x)) (hb : JD K M W tb ps (.str y)) : JD K M W (tOp rEq ta tb) ps (.bool (decide (x = y))) := je_op ha hb fun a b F H fh p q Q k => by
  rw [dp_str p, dp_str q]
  refine ⟨rfl, ?_⟩
  have e : decide (V.str x = V.str y) = decide (x = y) := by
    by_cases h : x = y
    · subst h; simp
    · simp [h]
  rw [e]
  exact k _ F H (Gr.refl fh) (.bl _)
/-- data at any depth -/
theorem je_eqD {d e : PyData} (ha : JD K M W ta ps d) (hb : JD K M W tb ps e) (sd : SeqAt.shaped d = true) (se : SeqAt.shaped e = true) : JD K M W (tOp (rEqD K) ta tb) ps (.bool (PyData.eqv d e)) :=
  je_op ha hb fun x y F H fh p q Q k => ⟨d, e, dp_mono fh p, dp_mono fh q, sd, se, k _ F H (Gr.refl fh) (.bl _)⟩
theorem je_neD {d e : PyData} (ha : JD K M W ta ps d) (hb : JD K M W tb ps e) (sd : SeqAt.shaped d = true) (se : SeqAt.shaped e = true) : JD K M W (tOp (rNeD K) ta tb) ps (.bool (!PyData.eqv d e)) :=
  je_op ha hb fun x y F H fh p q Q k => ⟨d, e, dp_mono fh p, dp_mono fh q, sd, se, k _ F H (Gr.refl fh) (.bl _)⟩
theorem je_neg {i : Int} (ha : JD K M W ta ps (.int i)) : JD K M W (tUn (rU fun i => .int (-i)) ta) ps (.int (-i)) := je_un ha fun x F H fh p Q k => ⟨i, dp_int p, k _ F H (Gr.refl fh) (.int _)⟩
/-- items -/
theorem atI_all {H : Hp} {vs : List V} {ds : List PyData} {i : Int} {d : PyData} (h : DpAll K H vs ds) (ha : atI ds i = some d) : ∃ v, atI vs i = some v ∧ Dp K H v d := by
  unfold atI at ha ⊢
  rw [dpLength h]
  cases q : ixN ds.length i with
  | none => rw [q] at ha; cases ha
  | some j =>
    rw [q] at ha
    exact dpGet h ha
theorem je_ixT {ds : List PyData} {i : Int} {d : PyData} (ha : JD K M W ta ps (.tuple ds)) (hb : JD K M W tb ps (.int i)) (hi : atI ds i = some d) : JD K M W (tOp (rIxT K) ta tb) ps d :=
  je_op ha hb fun x y F H fh p q Q k => by
    obtain ⟨a, xs, rfl, hs, hd⟩ := dp_tup p
    obtain ⟨v, hv, dd⟩ := atI_all hd hi
    exact ⟨a, xs, i, v, rfl, dp_int q, ex_t fh hs, hv, k v F H (Gr.refl fh) dd⟩
theorem je_ixL {ds : List PyData} {i : Int} {d : PyData} (ha : JD K M W ta ps (.list ds)) (hb : JD K M W tb ps (.int i)) (hi : atI ds i = some d) : JD K M W (tOp (rIxL K) ta tb) ps d :=
  je_op ha hb fun x y F H fh p q Q k => by
    obtain ⟨a, xs, rfl, hs, hd⟩ := dp_lst p
    obtain ⟨v, hv, dd⟩ := atI_all hd hi
    exact ⟨a, xs, i, v, rfl, dp_int q, ex_l fh hs, hv, k v F H (Gr.refl fh) dd⟩
theorem je_ixQT {ds : List PyData} {i : Int} {d : PyData} (ha : JD K M W ta ps (.tuple ds)) (hb : JD K M W tb ps (.int i)) (hi : atI ds i = some d) : JD K M W (tOp (rIx K) ta tb) ps d :=
  je_op ha hb fun x y F H fh p q Q k => by
    obtain ⟨a, xs, rfl, hs, hd⟩ := dp_tup p
    obtain ⟨v, hv, dd⟩ := atI_all hd hi
    exact .inr (.inl ⟨a, xs, i, v, rfl, dp_int q, ex_t fh hs, hv, k v F H (Gr.refl fh) dd⟩)
theorem je_ixQL {ds : List PyData} {i : Int} {d : PyData} (ha : JD K M W ta ps (.list ds)) (hb : JD K M W tb ps (.int i)) (hi : atI ds i = some d) : JD K M W (tOp (rIx K) ta tb) ps d :=
  je_op ha hb fun x y F H fh p q Q k => by
    obtain ⟨a, xs, rfl, hs, hd⟩ := dp_lst p
    obtain ⟨v, hv, dd⟩ := atI_all hd hi
    exact .inl ⟨a, xs, i, v, rfl, dp_int q, ex_l fh hs, hv, k v F H (Gr.refl fh) dd⟩
/-- arguments -/
theorem ja_nil : JA K M W tNil ps [] := fun σ F H Q fh S k => k [] F H (Gr.refl fh) .nil
theorem ja_cons {P : PV} {Ps : List PV} {tr : TA} (h : JV K M W te ps P) (hr : JA K M W tr ps Ps) : JA K M W (tCons te tr) ps (P :: Ps) := fun σ F H Q fh S k =>
  h.go fh S fun v F1 H1 e1 p => hr σ F1 H1 _ e1.fh (S.mono e1.ff) fun vs F2 H2 e2 a => k (v :: vs) F2 H2 (e1.trans e2) (.cons (P.mn e2.ff p) a)
theorem ja_starT {ds : List PyData} {Ps : List PV} {tr : TA} (h : JD K M W te ps (.tuple ds)) (hr : JA K M W tr ps Ps) : JA K M W (StX.tStar K te tr) ps (ds.map (dv K) ++ Ps) := fun σ F H Q fh S k =>
  h.go fh S fun v F1 H1 e1 p => by
    obtain ⟨a, xs, rfl, hs, hd⟩ := dp_tup p
    exact ⟨a, xs, rfl, .inl (ex_t e1.fh hs), hr σ F1 H1 _ e1.fh (S.mono e1.ff) fun vs F2 H2 e2 b => k (xs ++ vs) F2 H2 (e1.trans e2) ((AllP.of_dv (dpAll_mono e2.ff hd)).app b)⟩
theorem ja_starL {ds : List PyData} {Ps : List PV} {tr : TA} (h : JD K M W te ps (.list ds)) (hr : JA K M W tr ps Ps) : JA K M W (StX.tStar K te tr) ps (ds.map (dv K) ++ Ps) := fun σ F H Q fh S k =>
  h.go fh S fun v F1 H1 e1 p => by
    obtain ⟨a, xs, rfl, hs, hd⟩ := dp_lst p
    exact ⟨a, xs, rfl, .inr (ex_l e1.fh hs), hr σ F1 H1 _ e1.fh (S.mono e1.ff) fun vs F2 H2 e2 b => k (xs ++ vs) F2 H2 (e1.trans e2) ((AllP.of_dv (dpAll_mono e2.ff hd)).app b)⟩
theorem ja_is {Ps Qs : List PV} {tr : TA} (h : JA K M W tr ps Ps) (e : Ps = Qs) : JA K M W tr ps Qs := e ▸ h
theorem je_tup {ds : List PyData} {tr : TA} (h : JA K M W tr ps (ds.map (dv K))) (hl : ds.length ≤ 100000 := by first | decide | omega | (simp; done)) : JD K M W (tTup tr) ps (.tuple ds) := fun σ F H Q fh S k =>
  h σ F H _ fh S fun vs F1 H1 e1 a => ⟨sz_of (by rw [dpLength a.dv]; exact hl), fun p hp => k _ _ _ (e1.trans (Gr.new e1.fh hp)) (.tup (st_of upd_same) (dpAll_mono (Gr.new (o := .tup vs) e1.fh hp).ff a.dv))⟩
theorem je_lst {ds : List PyData} {tr : TA} (h : JA K M W tr ps (ds.map (dv K))) (hl : ds.length ≤ 100000 := by first | decide | omega | (simp; done)) : JD K M W (tLst tr) ps (.list ds) := fun σ F H Q fh S k =>
  h σ F H _ fh S fun vs F1 H1 e1 a => ⟨sz_of (by rw [dpLength a.dv]; exact hl), fun p hp => k _ _ _ (e1.trans (Gr.new e1.fh hp)) (.lst (sq_of upd_same) (dpAll_mono (Gr.new (o := .lst vs) e1.fh hp).ff a.dv))⟩
/-- calls -/
theorem je_call {α : Type} {args : α → List PV} {dom : α → Prop} {out : α → Out} {tr : TA} (a : α) (h : JA K M W tr ps (args a)) (hd : dom a) : JE K M W (tCallS (Prm K M args dom out) (WE W) tr) ps (out a) := fun σ F H Q fh S k =>
  h σ F H _ fh S fun vs F1 H1 e1 b => ⟨a, F1, e1.fh, b, hd, Then.step e1 k⟩
theorem je_cb {r : List V → Hp → VK → Prop} {Ps : List PV} {P : PV} {tr : TA} (h : JA K M W tr ps Ps) (hr : ∀ vs F H, Ex F H → AllP F vs Ps → ∀ Q : VK, (∀ v F' H', Gr F H F' H' → P.p F' v → Q v H') → r vs H Q) : JV K M W (tCB r tr) ps P := fun σ F H Q fh S k =>
  h σ F H _ fh S fun vs F1 H1 e1 b => hr vs F1 H1 e1.fh b Q fun v F2 H2 e2 p => k v F2 H2 (e1.trans e2) p
theorem allP1 {H : Hp} {vs : List V} {P : PV} (h : AllP H vs [P]) : ∃ v, vs = [v] ∧ P.p H v := by
  cases h with
  | cons h t => cases t; exact ⟨_, rfl, h⟩
theorem allP2 {H : Hp} {vs : List V} {P R : PV} (h : AllP H vs [P, R]) : ∃ v u, vs = [v, u] ∧ P.p H v ∧ R.p H u := by
  cases h with
  | cons h t =>
    obtain ⟨u, rfl, h2⟩ := allP1 t
    exact ⟨_, _, rfl, h, h2⟩
def rAbs : List V → Hp → VK → Prop := fun xs H Q => ∃ i, xs = [.int i] ∧ Q (.int (if i < 0 then -i else i)) H
theorem je_abs {i : Int} (h : JD K M W te ps (.int i)) : JD K M W (tCB rAbs (tCons te tNil)) ps (.int (if i < 0 then -i else i)) := je_cb (ja_cons h ja_nil) fun vs F H fh b Q k => by
  obtain ⟨v, rfl, p⟩ := allP1 b
  rw [dp_int p]
  exact ⟨i, rfl, k _ F H (Gr.refl fh) (.int _)⟩
def rInt1 : List V → Hp → VK → Prop := fun xs H Q => (∃ i, xs = [.int i] ∧ Q (.int i) H) ∨ ∃ k, xs = [.bl k] ∧ Q (.int (if k then 1 else 0)) H
theorem je_intI {i : Int} (h : JD K M W te ps (.int i)) : JD K M W (tCB rInt1 (tCons te tNil)) ps (.int i) := je_cb (ja_cons h ja_nil) fun vs F H fh b Q k => by
  obtain ⟨v, rfl, p⟩ := allP1 b
  rw [dp_int p]
  exact .inl ⟨i, rfl, k _ F H (Gr.refl fh) (.int _)⟩
theorem je_intB {c : Bool} (h : JD K M W te ps (.bool c)) : JD K M W (tCB rInt1 (tCons te tNil)) ps (.int (if c then 1 else 0)) := je_cb (ja_cons h ja_nil) fun vs F H fh b Q k => by
  obtain ⟨v, rfl, p⟩ := allP1 b
  rw [dp_bl p]
  exact .inr ⟨c, rfl, k _ F H (Gr.refl fh) (.int _)⟩
theorem je_lenT {ds : List PyData} (h : JD K M W te ps (.tuple ds)) : JD K M W (tCB (rLenS K) (tCons te tNil)) ps (.int ds.length) := je_cb (ja_cons h ja_nil) fun vs F H fh b Q k => by
  obtain ⟨v, rfl, p⟩ := allP1 b
  obtain ⟨a, xs, rfl, hs, hd⟩ := dp_tup p
  refine ⟨a, xs, rfl, .inr (ex_t fh hs), k _ F H (Gr.refl fh) ?_⟩
  rw [dpLength hd]
  exact .int _
theorem je_lenL {ds : List PyData} (h : JD K M W te ps (.list ds)) : JD K M W (tCB (rLenS K) (tCons te tNil)) ps (.int ds.length) := je_cb (ja_cons h ja_nil) fun vs F H fh b Q k => by
  obtain ⟨v, rfl, p⟩ := allP1 b
  obtain ⟨a, xs, rfl, hs, hd⟩ := dp_lst p
  refine ⟨a, xs, rfl, .inl (ex_l fh hs), k _ F H (Gr.refl fh) ?_⟩
  rw [dpLength hd]
  exact .int _
theorem je_listL {ds : List PyData} (h : JD K M W te ps (.list ds)) : JD K M W (tCB (rListS K) (tCons te tNil)) ps (.list ds) := je_cb (ja_cons h ja_nil) fun vs F H fh b Q k => by
  obtain ⟨v, rfl, p⟩ := allP1 b
  obtain ⟨a, xs, rfl, hs, hd⟩ := dp_lst p
  exact ⟨a, xs, rfl, .inl (ex_l fh hs), fun l hl => k _ _ _ (Gr.new fh hl) (.lst (sq_of upd_same) (dpAll_mono (Gr.new (o := .lst xs) fh hl).ff hd))⟩
theorem je_listT {ds : List PyData} (h : JD K M W te ps (.tuple ds)) : JD K M W (tCB (rListS K) (tCons te tNil)) ps (.list ds) := je_cb (ja_cons h ja_nil) fun vs F H fh b Q k => by
  obtain ⟨v, rfl, p⟩ := allP1 b
  obtain ⟨a, xs, rfl, hs, hd⟩ := dp_tup p
  exact ⟨a, xs, rfl, .inr (ex_t fh hs), fun l hl => k _ _ _ (Gr.new fh hl) (.lst (sq_of upd_same) (dpAll_mono (Gr.new (o := .lst xs) fh hl).ff hd))⟩
def rTupS (K : PySem.W.Frag) : List V → Hp → VK → Prop := fun xs H Q => ∃ p ys, xs = [.ref p] ∧ ((SqL K H p ys ∧ ∀ l, H l = none → Q (.ref l) (upd H l (.tup ys))) ∨ (SqT K H p ys ∧ Q (.ref p) H))
theorem je_tupL {ds : List PyData} (h : JD K M W te ps (.list ds)) : JD K M W (tCB (rTupS K) (tCons te tNil)) ps (.tuple ds) := je_cb (ja_cons h ja_nil) fun vs F H fh b Q k => by
  obtain ⟨v, rfl, p⟩ := allP1 b
  obtain ⟨a, xs, rfl, hs, hd⟩ := dp_lst p
  exact ⟨a, xs, rfl, .inl ⟨ex_l fh hs, fun l hl => k _ _ _ (Gr.new fh hl) (.tup (st_of upd_same) (dpAll_mono (Gr.new (o := .tup xs) fh hl).ff hd))⟩⟩
theorem je_tupT {ds : List PyData} (h : JD K M W te ps (.tuple ds)) : JD K M W (tCB (rTupS K) (tCons te tNil)) ps (.tuple ds) := je_cb (ja_cons h ja_nil) fun vs F H fh b Q k => by
  obtain ⟨v, rfl, p⟩ := allP1 b
  obtain ⟨a, xs, rfl, hs, hd⟩ := dp_tup p
  exact ⟨a, xs, rfl, .inr ⟨ex_t fh hs, k _ F H (Gr.refl fh) p⟩⟩
/-- tests -/
theorem jt_test {b : Bool} (h : JD K M W te ps (.bool b)) : JT K M W (tTest te) ps b := fun σ F H Q fh S k => h.go fh S fun v F1 H1 e p => ⟨b, dp_bl p, k F1 H1 e⟩
theorem jt_B {b : Bool} (h : JD K M W te ps (.bool b)) : JT K M W (tB te) ps b := fun σ F H Q fh S k => h.go fh S fun v F1 H1 e p => ⟨b, dp_bl p, k F1 H1 e⟩
theorem jt_and {a b : Bool} (h1 : JT K M W t ps a) (h2 : a = true → JT K M W u ps b) : JT K M W (tAnd t u) ps (a && b) := fun σ F H Q fh S k => h1 σ F H _ fh S fun F1 H1 e1 => by
  cases a with
  | true => exact h2 rfl σ F1 H1 Q e1.fh (S.mono e1.ff) fun F2 H2 e2 => k F2 H2 (e1.trans e2)
  | false => exact k F1 H1 e1
theorem jt_or {a b : Bool} (h1 : JT K M W t ps a) (h2 : a = false → JT K M W u ps b) : JT K M W (tOr t u) ps (a || b) := fun σ F H Q fh S k => h1 σ F H _ fh S fun F1 H1 e1 => by
  cases a with
  | false => exact h2 rfl σ F1 H1 Q e1.fh (S.mono e1.ff) fun F2 H2 e2 => k F2 H2 (e1.trans e2)
  | true => exact k F1 H1 e1
theorem jt_not {a : Bool} (h1 : JT K M W t ps a) : JT K M W (tNot t) ps (!a) := fun σ F H Q fh S k => h1 σ F H _ fh S fun F1 H1 e1 => k F1 H1 e1
theorem jt_yes : JT K M W tYes ps true := fun σ F H Q fh S k => k F H (Gr.refl fh)
theorem jt_is {a b : Bool} (h : JT K M W t ps a) (e : a = b) : JT K M W t ps b := by rw [← e]; exact h
theorem je_is {d e : PyData} (h : JD K M W te ps d) (q : d = e) : JD K M W te ps e := by rw [← q]; exact h
theorem je_andV {a b : Bool} (h1 : JD K M W ta ps (.bool a)) (h2 : a = true → JD K M W tb ps (.bool b)) : JD K M W (tAndV ta tb) ps (.bool (a && b)) := fun σ F H Q fh S k => h1.go fh S fun v F1 H1 e1 p => by
  refine ⟨a, dp_bl p, ?_⟩
  cases a with
  | true => exact (h2 rfl).go e1.fh (S.mono e1.ff) fun v F2 H2 e2 q => k v F2 H2 (e1.trans e2) q
  | false => exact k _ F1 H1 e1 (.bl false)
theorem je_orV {a b : Bool} (h1 : JD K M W ta ps (.bool a)) (h2 : a = false → JD K M W tb ps (.bool b)) : JD K M W (tOrV ta tb) ps (.bool (a || b)) := fun σ F H Q fh S k => h1.go fh S fun v F1 H1 e1 p => by
  refine ⟨a, dp_bl p, ?_⟩
  cases a with
  | false => exact (h2 rfl).go e1.fh (S.mono e1.ff) fun v F2 H2 e2 q => k v F2 H2 (e1.trans e2) q
  | true => exact k _ F1 H1 e1 (.bl true)
theorem je_notV {a : Bool} (h1 : JD K M W ta ps (.bool a)) : JD K M W (tNotV ta) ps (.bool (!a)) := fun σ F H Q fh S k => h1.go fh S fun v F1 H1 e1 p => ⟨a, dp_bl p, k _ F1 H1 e1 (.bl _)⟩
theorem je_if {b : Bool} {P : PV} (h : JT K M W t ps b) (h1 : b = true → JV K M W ta ps P) (h2 : b = false → JV K M W tb ps P) : JV K M W (tIf t ta tb) ps P := fun σ F H Q fh S k => h σ F H _ fh S fun F1 H1 e1 => by
  cases b with
  | true => exact (h1 rfl).go e1.fh (S.mono e1.ff) fun v F2 H2 e2 q => k v F2 H2 (e1.trans e2) q
  | false => exact (h2 rfl).go e1.fh (S.mono e1.ff) fun v F2 H2 e2 q => k v F2 H2 (e1.trans e2) q
/-- a < b <= c -/
theorem je_chain {r r' : R2} {P R T : PV} {k1 k2 : Bool} (ha : JV K M W ta ps P) (hb : JV K M W tb ps R) (hr : ∀ x y F H, Ex F H → P.p F x → R.p F y → ∀ Q : VK, Q (.bl k1) H → r x y H Q)
    (hc : k1 = true → JV K M W tc ps T) (hr' : ∀ x y F H, Ex F H → R.p F x → T.p F y → ∀ Q : VK, Q (.bl k2) H → r' x y H Q) : JD K M W (tChain r r' ta tb tc) ps (.bool (k1 && k2)) := fun σ F H Q fh S k =>
  ha.go fh S fun x F1 H1 e1 p => hb.go e1.fh (S.mono e1.ff) fun y F2 H2 e2 q => hr x y F2 H2 e2.fh (P.mn e2.ff p) q _ ⟨k1, rfl, by
    cases k1 with
    | false => exact k _ F2 H2 (e1.trans e2) (.bl _)
    | true => exact (hc rfl).go e2.fh ((S.mono e1.ff).mono e2.ff) fun z F3 H3 e3 s => hr' y z F3 H3 e3.fh (R.mn e3.ff q) s _ (k _ F3 H3 ((e1.trans e2).trans e3) (.bl _))⟩
theorem je_chainI {f f' : Int → Int → Bool} {i j l : Int} (ha : JD K M W ta ps (.int i)) (hb : JD K M W tb ps (.int j)) (hc : JD K M W tc ps (.int l)) :
    JD K M W (tChain (rI0 fun i j => .bl (f i j)) (rI0 fun i j => .bl (f' i j)) ta tb tc) ps (.bool (f i j && f' j l)) :=
  je_chain ha hb (fun x y F H fh p q Q k => ⟨i, j, dp_int p, dp_int q, k⟩) (fun _ => hc) (fun x y F H fh p q Q k => ⟨j, l, dp_int p, dp_int q, k⟩)
end
end EB

/-! EB4: statements (JS), loops over data, comprehensions, raise, methods, making. -/
namespace EB
open PySem PySem.Spec PyProof.Rows L2 Evl
inductive Res
  | nx (ps : Kn)
  | rt (P : PV)
  | bk (ps : Kn)
  | ct (ps : Kn)
  | er (e : Er)
def Wsh (K : PySem.W.Frag) (M : EC → Addr) (W : WX) (n : Nat) (D : Ends) (F H : Hp) : Res → Prop
  | .nx ps => ∀ σ' F' H', Gr F H F' H' → Sl F' σ' ps → D.nx σ' H'
  | .rt P => ∀ v F' H', Gr F H F' H' → P.p F' v → D.rt v H'
  | .bk ps => ∀ σ' F' H', Gr F H F' H' → Sl F' σ' ps → D.bk σ' H'
  | .ct ps => ∀ σ' F' H', Gr F H F' H' → Sl F' σ' ps → D.ct σ' H'
  | .er e => ∀ d u σ' F' H', Gr F H F' H' → H d = none → H' d = some (.xd [(e.c.fld, u)]) → Dp K F' u e.val → σ'.length = n → W (.ref (M e.c)) (some d) σ' H'
theorem Wsh.step {K : PySem.W.Frag} {M : EC → Addr} {W : WX} {n : Nat} {D : Ends} {F H F1 H1 : Hp} {r : Res} (e : Gr F H F1 H1) (h : Wsh K M W n D F H r) : Wsh K M W n D F1 H1 r := by
  cases r with
  | nx ps => exact fun σ' F' H' e2 s => h σ' F' H' (e.trans e2) s
  | rt P => exact fun v F' H' e2 s => h v F' H' (e.trans e2) s
  | bk ps => exact fun σ' F' H' e2 s => h σ' F' H' (e.trans e2) s
  | ct ps => exact fun σ' F' H' e2 s => h σ' F' H' (e.trans e2) s
  | er x => exact fun d u σ' F' H' e2 n a b l => h d u σ' F' H' (e.trans e2) (fresh_back e.hh n) a b l
/-- the end of a call's outcome, as a statement's -/
def Out.res (ps : Kn) : Out → Res
  | .ok _ => .nx ps
  | .er e => .er e
section
variable {K : PySem.W.Frag} {M : EC → Addr} {W : WX} {ps qs : Kn} {te ta tb : TE} {t : TT} {ts tu tw : TS} {r : Res}
def JS (K : PySem.W.Frag) (M : EC → Addr) (W : WX) (ts : TS) (ps : Kn) (r : Res) : Prop := ∀ D σ F H, Ex F H → Sl F σ ps → Wsh K M W ps.length D F H r → ts D σ H
/-- less is known of the slots behind it -/
theorem js_weak (h : JS K M W ts ps (.nx qs)) {rs : Kn} (w : Weak qs rs) : JS K M W ts ps (.nx rs) := fun D σ F H fh S k => h D σ F H fh S fun σ' F' H' e s => k σ' F' H' e (s.weak w)
theorem js_pre (h : JS K M W ts qs r) (w : Weak ps qs) : JS K M W ts ps r := fun D σ F H fh S k => h D σ F H fh (S.weak w) (by rw [← w.len]; exact k)
theorem js_next : JS K M W tNext ps (.nx ps) := fun D σ F H fh S k => k σ F H (Gr.refl fh) S
theorem js_cont : JS K M W tCont ps (.ct ps) := fun D σ F H fh S k => k σ F H (Gr.refl fh) S
theorem js_seq (h1 : JS K M W ts ps (.nx qs)) (h2 : JS K M W tu qs r) (hq : qs.length = ps.length := by first | rfl | (simp; done)) : JS K M W (tSeq ts tu) ps r := fun D σ F H fh S k => h1 { D with nx := tu D } σ F H fh S fun σ' F' H' e s => h2 D σ' F' H' e.fh s (by rw [hq]; exact Wsh.step e k)
/-- nothing behind it is reached -/
theorem js_stop {r : Res} (h1 : JS K M W ts ps r) (hr : ∀ qs, r ≠ .nx qs) : JS K M W (tSeq ts tu) ps r := fun D σ F H fh S k => h1 { D with nx := tu D } σ F H fh S (by
  cases r with
  | nx qs => exact absurd rfl (hr qs)
  | rt P => exact k
  | bk ps => exact k
  | ct ps => exact k
  | er e => exact k)
theorem js_rt {P : PV} (h1 : JS K M W ts ps (.rt P)) : JS K M W (tSeq ts tu) ps (.rt P) := js_stop h1 fun _ h => nomatch h
theorem js_er {e : Er} (h1 : JS K M W ts ps (.er e)) : JS K M W (tSeq ts tu) ps (.er e) := js_stop h1 fun _ h => nomatch h
theorem js_set {i : Nat} {P : PV} (h : JV K M W te ps P) : JS K M W (tAsg te (gName i)) ps (.nx (ps.set i (some P))) := fun D σ F H fh S k => h.go fh S fun v F1 H1 e p => k _ F1 H1 e ((S.mono e.ff).set i p)
theorem js_set_er {g : TG} {e : Er} (h : JE K M W te ps (.er e)) : JS K M W (tAsg te g) ps (.er e) := fun D σ F H fh S k => h σ F H _ fh S fun d u F' H' e1 n a b => k d u σ F' H' e1 n a b S.1
theorem js_ret {P : PV} (h : JV K M W te ps P) : JS K M W (tRet te) ps (.rt P) := fun D σ F H fh S k => h.go fh S fun v F1 H1 e p => k v F1 H1 e p
theorem js_ret_er {e : Er} (h : JE K M W te ps (.er e)) : JS K M W (tRet te) ps (.er e) := fun D σ F H fh S k => h σ F H _ fh S fun d u F' H' e1 n a b => k d u σ F' H' e1 n a b S.1
theorem js_retN : JS K M W tRetN ps (.rt (dv K .none)) := fun D σ F H fh S k => k .non F H (Gr.refl fh) .non
theorem js_drop {o : Out} (h : JE K M W te ps o) : JS K M W (tDrop te) ps (o.res ps) := fun D σ F H fh S k => h σ F H _ fh S (by
  cases o with
  | ok P => exact fun v F1 H1 e p => k σ F1 H1 e (S.mono e.ff)
  | er e => exact fun d u F' H' e1 n a b => k d u σ F' H' e1 n a b S.1)
theorem js_if {b : Bool} (h : JT K M W t ps b) (h1 : b = true → JS K M W ts ps r) (h2 : b = false → JS K M W tu ps r) : JS K M W (tIfS t ts tu) ps r := fun D σ F H fh S k => h σ F H _ fh S fun F1 H1 e1 => by
  cases b with
  | true => exact h1 rfl D σ F1 H1 e1.fh (S.mono e1.ff) (Wsh.step e1 k)
  | false => exact h2 rfl D σ F1 H1 e1.fh (S.mono e1.ff) (Wsh.step e1 k)
theorem js_res {r' : Res} (h : JS K M W ts ps r) (e : r = r') : JS K M W ts ps r' := e ▸ h
/-! ### targets -/
/-- a target takes a value that is known -/
structure Upto (vs : List Nat) (σ σ' : L2.St) : Prop where
  len : σ'.length = σ.length
  out : ∀ j, j ∉ vs → σ'[j]? = σ[j]?
theorem Upto.refl (vs : List Nat) (σ : L2.St) : Upto vs σ σ := ⟨rfl, fun _ _ => rfl⟩
theorem Upto.trans {vs : List Nat} {σ τ ρ : L2.St} (a : Upto vs σ τ) (b : Upto vs τ ρ) : Upto vs σ ρ := ⟨b.len.trans a.len, fun j h => (b.out j h).trans (a.out j h)⟩
theorem Upto.set {vs : List Nat} {σ : L2.St} {j : Nat} {x : Option V} (h : j ∈ vs) : Upto vs σ (σ.set j x) := ⟨by rw [List.length_set], fun i hi => by
  rw [List.getElem?_set_ne (fun z => hi (by rw [← z]; exact h))]⟩
theorem wipe_in {σ : L2.St} : ∀ {vs : List Nat} {j : Nat}, j ∈ vs → j < σ.length → (wipe σ vs)[j]? = some none
  | v :: vs, j, h, hl => by
    show ((wipe σ vs).set v none)[j]? = some none
    by_cases e : v = j
    · subst e
      exact List.getElem?_set_self (by rw [wipe_length]; exact hl)
    · rw [List.getElem?_set_ne e]
      rcases List.mem_cons.mp h with z | z
      · exact absurd z.symm e
      · exact wipe_in z hl
theorem wipe_upto {vs : List Nat} {σ σ' : L2.St} (u : Upto vs σ σ') : wipe σ' vs = wipe σ vs := by
  apply List.ext_getElem?
  intro j
  by_cases h : j ∈ vs
  · by_cases hl : j < σ.length
    · rw [wipe_in h hl, wipe_in h (by rw [u.len]; exact hl)]
    · rw [List.getElem?_eq_none (by rw [wipe_length, u.len]; omega), List.getElem?_eq_none (by rw [wipe_length]; omega)]
  · rw [wipe_out h, wipe_out h, u.out j h]
theorem upto_wipe {vs : List Nat} {σ : L2.St} : Upto vs σ (wipe σ vs) := ⟨wipe_length σ vs, fun j h => wipe_out h⟩
def wipeK : Kn → List Nat → Kn
  | ps, [] => ps
  | ps, v :: vs => (wipeK ps vs).set v none
theorem Sl.wipe {H : Hp} {σ : L2.St} {ps : Kn} (S : Sl H σ ps) : ∀ vs : List Nat, Sl H (L2.wipe σ vs) (wipeK ps vs)
  | [] => S
  | v :: vs => (Sl.wipe S vs).forget v none
def JG (vs : List Nat) (g : TG) (ps : Kn) (P : PV) (qs : Kn) : Prop := ∀ v σ F H (Q : L2.St → Hp → Prop), Ex F H → Sl F σ ps → P.p F v → (∀ σ' F' H', Gr F H F' H' → Sl F' σ' qs → Upto vs σ σ' → Q σ' H') → g v σ H Q
def JGs (vs : List Nat) (g : TGs) (ps : Kn) (Ps : List PV) (qs : Kn) : Prop := ∀ us σ F H (Q : L2.St → Hp → Prop), Ex F H → Sl F σ ps → AllP F us Ps → (∀ σ' F' H', Gr F H F' H' → Sl F' σ' qs → Upto vs σ σ' → Q σ' H') → g us σ H Q
variable {vs : List Nat}
theorem jg_name {i : Nat} {P : PV} (h : i ∈ vs := by decide) : JG vs (gName i) ps P (ps.set i (some P)) := fun v σ F H Q fh S p k => k _ F H (Gr.refl fh) (S.set i p) (Upto.set h)
theorem jgs_nil : JGs vs gNil ps [] ps := fun us σ F H Q fh S a k => by
  cases a
  exact ⟨rfl, k σ F H (Gr.refl fh) S (Upto.refl _ _)⟩
theorem jgs_cons {g : TG} {gs : TGs} {P : PV} {Ps : List PV} {rs : Kn} (h : JG vs g ps P qs) (hs : JGs vs gs qs Ps rs) : JGs vs (gCons g gs) ps (P :: Ps) rs := fun us σ F H Q fh S a k => by
  cases a with
  | cons p a =>
    exact ⟨_, _, rfl, h _ σ F H _ fh S p fun σ1 F1 H1 e1 S1 u1 => hs _ σ1 F1 H1 Q e1.fh S1 (a.mono e1.ff) fun σ2 F2 H2 e2 S2 u2 => k σ2 F2 H2 (e1.trans e2) S2 (u1.trans u2)⟩
theorem jg_tup {gs : TGs} {n : Nat} {ds : List PyData} (h : JGs vs gs ps (ds.map (dv K)) qs) (hn : ds.length = n := by rfl) : JG vs (gTup K n gs) ps (dv K (.tuple ds)) qs := fun v σ F H Q fh S p k => by
  obtain ⟨a, xs, rfl, hs, hd⟩ := dp_tup p
  exact ⟨a, xs, rfl, ex_t fh hs, by rw [dpLength hd, hn], h xs σ F H Q fh S (AllP.of_dv hd) k⟩
theorem js_asg {g : TG} {P : PV} (h : JV K M W te ps P) (hg : JG vs g ps P qs) : JS K M W (tAsg te g) ps (.nx qs) := fun D σ F H fh S k =>
  h.go fh S fun v F1 H1 e p => hg v σ F1 H1 _ e.fh (S.mono e.ff) p fun σ2 F2 H2 e2 S2 _ => k σ2 F2 H2 (e.trans e2) S2
theorem js_par {i j : Nat} {P R : PV} {tr : TA} (h : JA K M W tr ps [P, R]) : JS K M W (tPar i j tr) ps (.nx ((ps.set i (some P)).set j (some R))) := fun D σ F H fh S k => h σ F H _ fh S fun us F1 H1 e1 a => by
  obtain ⟨v, u, rfl, p, q⟩ := allP2 a
  exact ⟨v, u, rfl, k _ F1 H1 e1 (((S.mono e1.ff).set i p).set j q)⟩
/-! ### what is walked -/
/-- J walks the data ds, told at F, in every heap above -/
structure ItOf (K : PySem.W.Frag) (J : It) (F : Hp) (ds : List PyData) : Prop where
  stop : ∀ i H', Ex F H' → ds.length ≤ i → J.stop i H'
  go : ∀ i H', Ex F H' → i < ds.length → J.go i H'
  yld : ∀ i d F' H' x H2, Ex F F' → Ex F' H' → ds[i]? = some d → J.yld i H' x H2 → ∃ F2, Gr F' H' F2 H2 ∧ Dp K F2 x d
def JI (K : PySem.W.Frag) (M : EC → Addr) (W : WX) (wi : TI) (ps : Kn) (ds : List PyData) : Prop := ∀ σ F H R, Ex F H → Sl F σ ps → (∀ J F1 H1, Gr F H F1 H1 → ItOf K J F1 ds → R J H1) → wi σ H R
theorem itl_of {a : Addr} {xs : List V} {ds : List PyData} {F : Hp} (hx : SqL K F a xs) (hd : DpAll K F xs ds) : ItOf K (Itl K a) F ds where
  stop := fun i H' e h => ⟨xs, ex_l e hx, by rw [dpLength hd]; exact h⟩
  go := fun i H' e h => by
    have hl : i < xs.length := by rw [dpLength hd]; exact h
    exact ⟨xs, xs[i], ex_l e hx, List.getElem?_eq_getElem hl⟩
  yld := fun i d F' H' x H2 e fh hi y => by
    obtain ⟨rfl, y⟩ := y
    obtain ⟨v, hv, dvv⟩ := dpGet hd hi
    have := y xs (ex_l (e.trans fh) hx)
    rw [hv] at this
    cases this
    exact ⟨F', Gr.refl fh, dp_mono e dvv⟩
theorem itt_of {a : Addr} {xs : List V} {ds : List PyData} {F : Hp} (hx : SqT K F a xs) (hd : DpAll K F xs ds) : ItOf K (Itt K a) F ds where
  stop := fun i H' e h => ⟨xs, ex_t e hx, by rw [dpLength hd]; exact h⟩
  go := fun i H' e h => by
    have hl : i < xs.length := by rw [dpLength hd]; exact h
    exact ⟨xs, xs[i], ex_t e hx, List.getElem?_eq_getElem hl⟩
  yld := fun i d F' H' x H2 e fh hi y => by
    obtain ⟨rfl, y⟩ := y
    obtain ⟨v, hv, dvv⟩ := dpGet hd hi
    have := y xs (ex_t (e.trans fh) hx)
    rw [hv] at this
    cases this
    exact ⟨F', Gr.refl fh, dp_mono e dvv⟩
theorem ji_list {ds : List PyData} (h : JD K M W te ps (.list ds)) : JI K M W (iList K te) ps ds := fun σ F H R fh S k => h.go fh S fun v F1 H1 e p => by
  obtain ⟨a, xs, rfl, hx, hd⟩ := dp_lst p
  exact ⟨a, rfl, ⟨xs, ex_l e.fh hx⟩, k _ F1 H1 e (itl_of hx hd)⟩
theorem ji_tup {ds : List PyData} (h : JD K M W te ps (.tuple ds)) : JI K M W (iTup K te) ps ds := fun σ F H R fh S k => h.go fh S fun v F1 H1 e p => by
  obtain ⟨a, xs, rfl, hx, hd⟩ := dp_tup p
  exact ⟨a, rfl, ⟨xs, ex_t e.fh hx⟩, k _ F1 H1 e (itt_of hx hd)⟩
/-- the ints lo, lo + 1, .. -/
def rg (lo : Int) (n : Nat) : List Int := (List.range n).map fun i => lo + (i : Nat)
theorem rg_length (lo : Int) (n : Nat) : (rg lo n).length = n := by unfold rg; rw [List.length_map, List.length_range]
theorem rg_get {lo : Int} {n i : Nat} (h : i < n) : (rg lo n)[i]? = some (lo + (i : Nat)) := by
  unfold rg
  rw [List.getElem?_map, List.getElem?_range h]
  rfl
theorem itr_of {lo : Int} {n : Nat} {F : Hp} : ItOf K (Itr lo n) F ((rg lo n).map PyData.int) where
  stop := fun i H' e h => by
    rw [List.length_map, rg_length] at h
    exact h
  go := fun i H' e h => by
    rw [List.length_map, rg_length] at h
    exact h
  yld := fun i d F' H' x H2 e fh hi y => by
    obtain ⟨e2, e1⟩ := y
    subst e1
    subst e2
    have hl : i < n := by
      have := (List.getElem?_eq_some_iff.mp hi).1
      rw [List.length_map, rg_length] at this
      exact this
    rw [List.getElem?_map, rg_get hl] at hi
    cases hi
    exact ⟨F', Gr.refl fh, .int _⟩
theorem ji_rng1 {tr : TA} {n : Int} (h : JA K M W tr ps [dv K (.int n)]) (hn : -100000 ≤ n ∧ n ≤ 100000) : JI K M W (iRng1 tr) ps ((rg 0 n.toNat).map PyData.int) := fun σ F H R fh S k => h σ F H _ fh S fun us F1 H1 e1 a => by
  obtain ⟨v, rfl, p⟩ := allP1 a
  rw [dp_int p]
  exact ⟨n, rfl, by omega, by omega, k _ F1 H1 e1 itr_of⟩
theorem ji_rng2 {tr : TA} {lo n : Int} (h : JA K M W tr ps [dv K (.int lo), dv K (.int n)]) (hn : -100000 ≤ lo ∧ lo ≤ 100000 ∧ -100000 ≤ n ∧ n ≤ 100000) : JI K M W (iRng2 tr) ps ((rg lo (n - lo).toNat).map PyData.int) := fun σ F H R fh S k => h σ F H _ fh S fun us F1 H1 e1 a => by
  obtain ⟨v, u, rfl, p, q⟩ := allP2 a
  rw [dp_int p, dp_int q]
  exact ⟨lo, n, rfl, ⟨by omega, by omega, by omega, by omega⟩, k _ F1 H1 e1 itr_of⟩
/-- numbered -/
def nb (ds : List PyData) : List PyData := (List.range ds.length).zipWith (fun i d => PyData.tuple [.int (i : Nat), d]) ds
theorem nb_length (ds : List PyData) : (nb ds).length = ds.length := by unfold nb; simp
theorem nb_get {ds : List PyData} {i : Nat} {d : PyData} (h : ds[i]? = some d) : (nb ds)[i]? = some (.tuple [.int (i : Nat), d]) := by
  have hl := (List.getElem?_eq_some_iff.mp h).1
  unfold nb
  rw [List.getElem?_zipWith, List.getElem?_range hl, h]
theorem ite_of {a : Addr} {xs : List V} {ds : List PyData} {F : Hp} (hx : SqL K F a xs) (hd : DpAll K F xs ds) : ItOf K (Ite K a) F (nb ds) where
  stop := fun i H' e h => ⟨xs, ex_l e hx, by rw [dpLength hd]; rw [nb_length] at h; exact h⟩
  go := fun i H' e h => by
    have hl : i < xs.length := by rw [dpLength hd]; rw [nb_length] at h; exact h
    exact ⟨xs, xs[i], ex_l e hx, List.getElem?_eq_getElem hl⟩
  yld := fun i d F' H' x H2 e fh hi y => by
    obtain ⟨T, y0, rfl, nT, rfl, f⟩ := y
    have hl : i < ds.length := by
      have := (List.getElem?_eq_some_iff.mp hi).1
      rw [nb_length] at this
      exact this
    rw [nb_get (List.getElem?_eq_getElem hl)] at hi
    cases hi
    obtain ⟨v, hv, dvv⟩ := dpGet hd (List.getElem?_eq_getElem hl)
    have := f xs (ex_l (e.trans fh) hx)
    rw [hv] at this
    cases this
    exact ⟨_, Gr.new fh nT, .tup (st_of upd_same) (.cons (.int _) (.cons (dp_mono (e.trans (Gr.new (o := .tup [.int (i : Nat), y0]) fh nT).ff) dvv) .nil))⟩
theorem iteT_of {a : Addr} {xs : List V} {ds : List PyData} {F : Hp} (hx : SqT K F a xs) (hd : DpAll K F xs ds) : ItOf K (IteT K a) F (nb ds) where
  stop := fun i H' e h => ⟨xs, ex_t e hx, by rw [dpLength hd]; rw [nb_length] at h; exact h⟩
  go := fun i H' e h => by
    have hl : i < xs.length := by rw [dpLength hd]; rw [nb_length] at h; exact h
    exact ⟨xs, xs[i], ex_t e hx, List.getElem?_eq_getElem hl⟩
  yld := fun i d F' H' x H2 e fh hi y => by
    obtain ⟨T, y0, rfl, nT, rfl, f⟩ := y
    have hl : i < ds.length := by
      have := (List.getElem?_eq_some_iff.mp hi).1
      rw [nb_length] at this
      exact this
    rw [nb_get (List.getElem?_eq_getElem hl)] at hi
    cases hi
    obtain ⟨v, hv, dvv⟩ := dpGet hd (List.getElem?_eq_getElem hl)
    have := f xs (ex_t (e.trans fh) hx)
    rw [hv] at this
    cases this
    exact ⟨_, Gr.new fh nT, .tup (st_of upd_same) (.cons (.int _) (.cons (dp_mono (e.trans (Gr.new (o := .tup [.int (i : Nat), y0]) fh nT).ff) dvv) .nil))⟩
theorem ji_enum {ds : List PyData} (h : JD K M W te ps (.list ds)) : JI K M W (iEnum K (tCons te tNil)) ps (nb ds) := fun σ F H R fh S k => h.go fh S fun v F1 H1 e p => by
  obtain ⟨a, xs, rfl, hx, hd⟩ := dp_lst p
  exact ⟨a, xs, rfl, ex_l e.fh hx, k _ F1 H1 e (ite_of hx hd)⟩
theorem ji_enumT {ds : List PyData} (h : JD K M W te ps (.tuple ds)) : JI K M W (iEnumT K (tCons te tNil)) ps (nb ds) := fun σ F H R fh S k => h.go fh S fun v F1 H1 e p => by
  obtain ⟨a, xs, rfl, hx, hd⟩ := dp_tup p
  exact ⟨a, xs, rfl, ex_t e.fh hx, k _ F1 H1 e (iteT_of hx hd)⟩
theorem ji_is {wi : TI} {ds es : List PyData} (h : JI K M W wi ps ds) (e : ds = es) : JI K M W wi ps es := e ▸ h
/-- a for: m turns go on (f tells what is known ahead of each), then it ends, or the turn m leaves it by r -/
theorem js_for {wi : TI} {g : TG} {ds : List PyData} {tb : TS} (f : Nat → Kn) (m : Nat) (hi : JI K M W wi ps ds) (h0 : f 0 = ps) (hm : m ≤ ds.length)
    (hs : ∀ i d, i < m → ds[i]? = some d → ∃ qs, JG vs g (f i) (dv K d) qs ∧ (JS K M W tb qs (.nx (f (i + 1))) ∨ JS K M W tb qs (.ct (f (i + 1)))))
    (he : (m = ds.length ∧ r = .nx (f m)) ∨ (∃ d qs, ds[m]? = some d ∧ JG vs g (f m) (dv K d) qs ∧ JS K M W tb qs r ∧ ((∃ P, r = .rt P) ∨ ∃ e, r = .er e)))
    (hf : ∀ i, (f i).length = ps.length := by intro i; first | rfl | (simp; done)) : JS K M W (tFor wi g tb) ps r := fun D σ F H fh S k => hi σ F H _ fh S fun J F1 H1 e1 it => by
  refine ⟨fun i n σ' H' => n = ds.length - i ∧ i ≤ m ∧ ∃ F', Gr F1 H1 F' H' ∧ Sl F' σ' (f i), ⟨ds.length, by omega, Nat.zero_le _, F1, Gr.refl e1.fh, by rw [h0]; exact S.mono e1.ff⟩, ?_⟩
  rintro i n σ' H' ⟨rfl, him, F2, e2, S2⟩
  by_cases hlt : i < m
  · have hl : i < ds.length := Nat.lt_of_lt_of_le hlt hm
    refine .inr ⟨it.go i H' (e2.ff.trans e2.fh) hl, fun σ3 H3 => ∃ F3, Gr F1 H1 F3 H3 ∧ Sl F3 σ3 (f (i + 1)), fun σ3 H3 q => ⟨ds.length - (i + 1), by omega, rfl, hlt, q⟩, fun x H3 y => ?_⟩
    obtain ⟨F3, e3, dx⟩ := it.yld i _ F2 H' x H3 e2.ff e2.fh (List.getElem?_eq_getElem hl) y
    obtain ⟨qs, hg, hb⟩ := hs i _ hlt (List.getElem?_eq_getElem hl)
    refine hg x σ' F3 H3 _ e3.fh (S2.mono e3.ff) dx fun σ4 F4 H4 e4 S4 _ => ?_
    rcases hb with hb | hb
    · exact hb _ σ4 F4 H4 e4.fh S4 fun σ5 F5 H5 e5 S5 => ⟨F5, ((e2.trans e3).trans e4).trans e5, S5⟩
    · exact hb _ σ4 F4 H4 e4.fh S4 fun σ5 F5 H5 e5 S5 => ⟨F5, ((e2.trans e3).trans e4).trans e5, S5⟩
  · have hem : i = m := by omega
    subst hem
    rcases he with ⟨hlen, hr⟩ | ⟨d, qs, hd, hg, hb, hr⟩
    · subst hr
      exact .inl ⟨it.stop i H' (e2.ff.trans e2.fh) (by omega), k σ' F2 H' (e1.trans e2) S2⟩
    · have hl : i < ds.length := (List.getElem?_eq_some_iff.mp hd).1
      refine .inr ⟨it.go i H' (e2.ff.trans e2.fh) hl, fun _ _ => False, fun _ _ z => z.elim, fun x H3 y => ?_⟩
      obtain ⟨F3, e3, dx⟩ := it.yld i _ F2 H' x H3 e2.ff e2.fh hd y
      refine hg x σ' F3 H3 _ e3.fh (S2.mono e3.ff) dx fun σ4 F4 H4 e4 S4 u4 => hb _ σ4 F4 H4 e4.fh S4 ?_
      have ql : qs.length = ps.length := by rw [← S4.1, u4.len, S2.1, hf]
      rw [ql]
      have k2 := Wsh.step (((e1.trans e2).trans e3).trans e4) k
      rcases hr with ⟨P, rfl⟩ | ⟨e, rfl⟩
      · exact k2
      · exact k2
/-! ### comprehensions -/
theorem filter_take_succ {α : Type} {b : α → Bool} {xs : List α} {i : Nat} {x : α} (h : xs[i]? = some x) : (xs.take (i + 1)).filter b = (xs.take i).filter b ++ (if b x then [x] else []) := by
  rw [List.take_succ, h, List.filter_append]
  cases hb : b x <;> simp [hb]
/-- a list that grows lies at D: not told at F -/
structure Acc (K : PySem.W.Frag) (D : Addr) (F1 H1 F H : Hp) (ds : List PyData) : Prop where
  gr : Gr F1 H1 F H
  off : F D = none
  at_ : ∃ acc, H D = some (.lst acc) ∧ DpAll K F acc ds
theorem gr_mut {F1 H1 F H : Hp} {D : Addr} {o : HO} (g : Gr F1 H1 F H) (h1 : H1 D = none) (off : F D = none) : Gr F1 H1 F (upd H D o) := ⟨g.ff, g.hh.mut h1, g.fh.mut off, g.nw⟩
theorem gr_in {F1 H1 F H : Hp} {D : Addr} {o : HO} (g : Gr F1 H1 F H) (h1 : H1 D = none) (off : F D = none) (at_ : H D = some o) : Gr F1 H1 (upd F D o) H := ⟨g.ff.trans (Ex.new off), g.hh, fun a u e => by
  by_cases z : a = D
  · subst z
    rw [upd_same] at e
    cases e
    exact at_
  · rw [upd_ne z] at e
    exact g.fh a u e, fun a ha hf => by
  have : a ≠ D := fun z => by
    subst z
    exact ha h1
  rw [upd_ne this]
  exact g.nw a ha hf⟩
theorem Acc.start {D : Addr} {F H : Hp} (fh : Ex F H) (hD : H D = none) : Acc K D F H F (upd H D (.lst [])) [] := ⟨gr_mut (Gr.refl fh) hD (fresh_back fh hD), fresh_back fh hD, [], upd_same, .nil⟩
theorem Acc.step {D : Addr} {F1 H1 F H F2 H2 : Hp} {ds : List PyData} (a : Acc K D F1 H1 F H ds) (g : Gr F H F2 H2) : Acc K D F1 H1 F2 H2 ds := by
  obtain ⟨acc, h, d⟩ := a.at_
  exact ⟨a.gr.trans g, g.nw D (by rw [h]; exact fun z => nomatch z) a.off, acc, g.hh _ _ h, dpAll_mono g.ff d⟩
theorem Acc.app {D : Addr} {F1 H1 F H : Hp} {ds : List PyData} {v : V} {d : PyData} {acc : List V} (a : Acc K D F1 H1 F H ds) (h1 : H1 D = none) (hacc : H D = some (.lst acc)) (p : Dp K F v d) : Acc K D F1 H1 F (upd H D (.lst (acc ++ [v]))) (ds ++ [d]) := by
  obtain ⟨acc2, h, dd⟩ := a.at_
  rw [hacc] at h
  cases h
  exact ⟨gr_mut a.gr h1 a.off, a.off, _, upd_same, dpApp dd (.cons p .nil)⟩
theorem Acc.len {D : Addr} {F1 H1 F H : Hp} {ds : List PyData} {acc : List V} (a : Acc K D F1 H1 F H ds) (hacc : H D = some (.lst acc)) : acc.length = ds.length := by
  obtain ⟨acc2, h, dd⟩ := a.at_
  rw [hacc] at h
  cases h
  exact dpLength dd
/-- it is told from now on -/
theorem Acc.done {D : Addr} {F1 H1 F H : Hp} {ds : List PyData} (a : Acc K D F1 H1 F H ds) (h1 : H1 D = none) : ∃ F', Gr F1 H1 F' H ∧ Dp K F' (.ref D) (.list ds) ∧ Ex F F' := by
  obtain ⟨acc, h, dd⟩ := a.at_
  exact ⟨upd F D (.lst acc), gr_in a.gr h1 a.off h, .lst (sq_of upd_same) (dpAll_mono (Ex.new a.off) dd), Ex.new a.off⟩
/-- [e for x in ds if b], the items told by xs -/
theorem je_lc {α : Type} {wi : TI} {g : TG} (xs : List α) (enc : α → PyData) (b : α → Bool) (e : α → PyData) {W' : WX} (hi : JI K M W wi ps (xs.map enc)) (hlen : xs.length ≤ 90000)
    (hs : ∀ x ∈ xs, ∃ qs, JG vs g (wipeK ps vs) (dv K (enc x)) qs ∧ JT K M W' t qs (b x) ∧ (b x = true → JD K M W' te qs (e x))) : JD K M W (tLc wi g t te vs) ps (.list ((xs.filter b).map e)) := fun σ F H Q fh S k => hi σ F H _ fh S fun J F1 H1 e1 it D hD => by
  refine ⟨fun i n H' => n = xs.length - i ∧ i ≤ xs.length ∧ ∃ F', Acc K D F1 H1 F' H' (((xs.take i).filter b).map e), ⟨xs.length, by omega, Nat.zero_le _, F1, Acc.start e1.fh hD⟩, ?_⟩
  rintro i n H' ⟨rfl, him, F2, A⟩
  have accLen : (((xs.take i).filter b).map e).length ≤ i := by
    rw [List.length_map]
    have := List.length_filter_le b (xs.take i)
    rw [List.length_take] at this
    omega
  by_cases hlt : i < xs.length
  · have hx : xs[i]? = some xs[i] := List.getElem?_eq_getElem hlt
    have hmem : xs[i] ∈ xs := List.getElem_mem hlt
    have hex : (xs.map enc)[i]? = some (enc xs[i]) := by rw [List.getElem?_map, hx] <;> rfl
    refine .inr ⟨it.go i H' (A.gr.ff.trans A.gr.fh) (by rw [List.length_map]; exact hlt), fun H3 => ∃ F3, Acc K D F1 H1 F3 H3 (((xs.take (i + 1)).filter b).map e), fun H3 q => ⟨xs.length - (i + 1), by omega, rfl, hlt, q⟩, fun x H3 y => ?_⟩
    obtain ⟨F3, e3, dx⟩ := it.yld i _ F2 H' x H3 A.gr.ff A.gr.fh hex y
    have A3 := A.step e3
    obtain ⟨qs, hg, ht, he⟩ := hs xs[i] hmem
    refine hg x (wipe σ vs) F3 H3 _ e3.fh ((S.mono (e1.ff.trans A3.gr.ff)).wipe vs) dx fun σ4 F4 H4 e4 S4 u4 => ⟨wipe_upto (upto_wipe.trans u4), ht σ4 F4 H4 _ e4.fh S4 fun F5 H5 e5 => ?_⟩
    have A5 := (A3.step e4).step e5
    have ff := filter_take_succ (b := b) hx
    cases hb : b xs[i] with
    | true =>
      rw [hb] at ff
      show te σ4 H5 _
      refine (he hb).go e5.fh (S4.mono e5.ff) fun v F6 H6 e6 p => ?_
      have A6 := A5.step e6
      obtain ⟨acc, h6, _⟩ := A6.at_
      refine ⟨acc, h6, sz_lt (by rw [A6.len h6]; omega), F6, ?_⟩
      rw [ff, List.map_append]
      exact A6.app hD h6 p
    | false =>
      rw [hb] at ff
      show ∃ F3, Acc K D F1 H1 F3 H5 _
      rw [ff]
      simp only [Bool.false_eq_true, if_false, List.append_nil]
      exact ⟨F5, A5⟩
  · have hem : i = xs.length := by omega
    subst hem
    rw [List.take_length] at A
    obtain ⟨F3, g3, d3, _⟩ := A.done hD
    exact .inl ⟨it.stop _ H' (A.gr.ff.trans A.gr.fh) (by rw [List.length_map]; exact Nat.le_refl _), k _ F3 H' (e1.trans g3) d3⟩
theorem flatMap_take_succ {α β : Type} {f : α → List β} {xs : List α} {i : Nat} {x : α} (h : xs[i]? = some x) : (xs.take (i + 1)).flatMap f = (xs.take i).flatMap f ++ f x := by
  rw [List.take_succ, h, List.flatMap_append]
  simp
theorem flatMap_take_le {α β : Type} (f : α → List β) (xs : List α) (i : Nat) : ((xs.take i).flatMap f).length ≤ (xs.flatMap f).length := by
  conv => rhs; rw [← List.take_append_drop i xs]
  rw [List.flatMap_append, List.length_append]
  omega
/-- [e for x in ds for y in (those of x) if b], the first clause without a test -/
theorem je_lc2 {α β : Type} {wi wi1 : TI} {g g1 : TG} {u : TT} {vs1 : List Nat} (xs : List α) (ys : α → List β) (enc : α → PyData) (enc1 : β → PyData) (b : α → β → Bool) (e : α → β → PyData) {W' : WX} (hi : JI K M W wi ps (xs.map enc))
    (hlen : (xs.flatMap fun x => ((ys x).filter (b x)).map (e x)).length ≤ 90000)
    (hs : ∀ x ∈ xs, ∃ qs, JG vs g (wipeK ps vs) (dv K (enc x)) qs ∧ JT K M W' t qs true ∧ JI K M W' wi1 qs ((ys x).map enc1) ∧
      ∀ y ∈ ys x, ∃ rs, JG vs1 g1 (wipeK qs vs1) (dv K (enc1 y)) rs ∧ JT K M W' u rs (b x y) ∧ (b x y = true → JD K M W' te rs (e x y))) :
    JD K M W (tLc2 wi g t wi1 g1 u te vs vs1) ps (.list (xs.flatMap fun x => ((ys x).filter (b x)).map (e x))) := fun σ F H Q fh S k => hi σ F H _ fh S fun J F1 H1 e1 it D hD => by
  let out : α → List PyData := fun x => ((ys x).filter (b x)).map (e x)
  refine ⟨fun i n H' => n = xs.length - i ∧ i ≤ xs.length ∧ ∃ F', Acc K D F1 H1 F' H' ((xs.take i).flatMap out), ⟨xs.length, by omega, Nat.zero_le _, F1, Acc.start e1.fh hD⟩, ?_⟩
  rintro i n H' ⟨rfl, him, F2, A⟩
  by_cases hlt : i < xs.length
  · have hx : xs[i]? = some xs[i] := List.getElem?_eq_getElem hlt
    have hmem : xs[i] ∈ xs := List.getElem_mem hlt
    have hex : (xs.map enc)[i]? = some (enc xs[i]) := by rw [List.getElem?_map, hx] <;> rfl
    refine .inr ⟨it.go i H' (A.gr.ff.trans A.gr.fh) (by rw [List.length_map]; exact hlt), fun H3 => ∃ F3, Acc K D F1 H1 F3 H3 ((xs.take (i + 1)).flatMap out), fun H3 q => ⟨xs.length - (i + 1), by omega, rfl, hlt, q⟩, fun x H3 y => ?_⟩
    obtain ⟨F3, e3, dx⟩ := it.yld i _ F2 H' x H3 A.gr.ff A.gr.fh hex y
    have A3 := A.step e3
    obtain ⟨qs, hg, ht, hi1, hin⟩ := hs xs[i] hmem
    refine hg x (wipe σ vs) F3 H3 _ e3.fh ((S.mono (e1.ff.trans A3.gr.ff)).wipe vs) dx fun σ4 F4 H4 e4 S4 u4 => ⟨wipe_upto (upto_wipe.trans u4), ht σ4 F4 H4 _ e4.fh S4 fun F5 H5 e5 => ?_⟩
    have A5 := (A3.step e4).step e5
    show wi1 σ4 H5 _
    refine hi1 σ4 F5 H5 _ e5.fh (S4.mono e5.ff) fun J1 F6 H6 e6 it1 => ?_
    have A6 := A5.step e6
    have pre := flatMap_take_le out xs (i + 1)
    rw [flatMap_take_succ hx, List.length_append] at pre
    refine ⟨fun j n H' => n = (ys xs[i]).length - j ∧ j ≤ (ys xs[i]).length ∧ ∃ F', Ex F6 F' ∧ Acc K D F1 H1 F' H' ((xs.take i).flatMap out ++ (((ys xs[i]).take j).filter (b xs[i])).map (e xs[i])), ⟨(ys xs[i]).length, by omega, Nat.zero_le _, F6, Ex.refl _, by simpa using A6⟩, ?_⟩
    rintro j n H7 ⟨rfl, hj, F7, x67, A7⟩
    by_cases hjl : j < (ys xs[i]).length
    · have hy : (ys xs[i])[j]? = some (ys xs[i])[j] := List.getElem?_eq_getElem hjl
      have ymem : (ys xs[i])[j] ∈ ys xs[i] := List.getElem_mem hjl
      have hey : ((ys xs[i]).map enc1)[j]? = some (enc1 (ys xs[i])[j]) := by rw [List.getElem?_map, hy] <;> rfl
      refine .inr ⟨it1.go j H7 (x67.trans A7.gr.fh) (by rw [List.length_map]; exact hjl), fun H8 => ∃ F8, Ex F6 F8 ∧ Acc K D F1 H1 F8 H8 ((xs.take i).flatMap out ++ (((ys xs[i]).take (j + 1)).filter (b xs[i])).map (e xs[i])), fun H8 q => ⟨(ys xs[i]).length - (j + 1), by omega, rfl, hjl, q⟩, fun x1 H8 y1 => ?_⟩
      obtain ⟨F8, e8, dy⟩ := it1.yld j _ F7 H7 x1 H8 x67 A7.gr.fh hey y1
      have A8 := A7.step e8
      obtain ⟨rs, hg1, ht1, he1⟩ := hin _ ymem
      refine hg1 x1 (wipe σ4 vs1) F8 H8 _ e8.fh ((S4.mono ((e5.ff.trans e6.ff).trans (x67.trans e8.ff))).wipe vs1) dy fun σ9 F9 H9 e9 S9 u9 => ⟨wipe_upto (upto_wipe.trans u9), ht1 σ9 F9 H9 _ e9.fh S9 fun Fa Ha ea => ?_⟩
      have Aa := (A8.step e9).step ea
      have ff := filter_take_succ (b := b xs[i]) hy
      have pre2 : (((ys xs[i]).take j).filter (b xs[i])).length ≤ ((ys xs[i]).filter (b xs[i])).length := by
        conv => rhs; rw [← List.take_append_drop j (ys xs[i])]
        rw [List.filter_append, List.length_append]
        omega
      have lout : (out xs[i]).length = ((ys xs[i]).filter (b xs[i])).length := List.length_map _
      cases hb : b xs[i] (ys xs[i])[j] with
      | true =>
        rw [hb] at ff
        show te σ9 Ha _
        refine (he1 hb).go ea.fh (S9.mono ea.ff) fun v Fb Hb eb p => ?_
        have Ab := Aa.step eb
        obtain ⟨acc, hb6, _⟩ := Ab.at_
        refine ⟨acc, hb6, sz_lt ?_, Fb, ((x67.trans e8.ff).trans e9.ff).trans (ea.ff.trans eb.ff), ?_⟩
        · rw [Ab.len hb6, List.length_append, List.length_map]
          have h1 : (xs.flatMap out).length ≤ 90000 := hlen
          omega
        · rw [ff, List.map_append, ← List.append_assoc]
          exact Ab.app hD hb6 p
      | false =>
        rw [hb] at ff
        show ∃ F8, Ex F6 F8 ∧ Acc K D F1 H1 F8 Ha _
        rw [ff]
        simp only [Bool.false_eq_true, if_false, List.append_nil]
        exact ⟨Fa, ((x67.trans e8.ff).trans e9.ff).trans ea.ff, Aa⟩
    · have hem : j = (ys xs[i]).length := by omega
      subst hem
      rw [List.take_length] at A7
      refine .inl ⟨it1.stop _ H7 (x67.trans A7.gr.fh) (by rw [List.length_map]; exact Nat.le_refl _), F7, ?_⟩
      rw [flatMap_take_succ hx]
      exact A7
  · have hem : i = xs.length := by omega
    subst hem
    rw [List.take_length] at A
    obtain ⟨F3, g3, d3, _⟩ := A.done hD
    exact .inl ⟨it.stop _ H' (A.gr.ff.trans A.gr.fh) (by rw [List.length_map]; exact Nat.le_refl _), k _ F3 H' (e1.trans g3) d3⟩
end
end EB

/-! EB5: errors with a field, raise, methods and making where what is raised is wished for at the slots, fields, isinstance, try. -/
namespace EB
open PySem PySem.Spec PyProof.Rows L2 Evl
/-! ### rules -/
section
variable {X : Cx} {CX : CXT} {k : Nat} {f C : Addr} {fd : FuncData} {ps : List Str} {sp : Sp} {E : L2.St → XK} {x m : Str} {p pos apos : Pos} {e o : Expr} {es : List Expr} {ta : TE} {t : TA}
/-- C(..), at the slots -/
def tMakeS (C : Addr) (sp : Sp) (E : L2.St → XK) (t : TA) : TE := fun σ H Q => tMake C sp [] (E σ) t σ H Q
theorem pe_makeS (M : Mk X.K C f) (F : FnOk X.prog X.w X.K X.mg X.base CX k f fd ps sp) (hr : Room (k + 1) X.A) (hg : Gl X x) (hm : X.mg x = some (.ref C)) (hb : Binds X.K fd ps []) (hx : ∀ σ, PassesAt CX X σ (E σ))
    (ha : PA X (e :: es) t) (hdb : (x == ("__debug__" : Str)) = false := by decide) (he : starEach (e :: es) X.env = (false, eval e X.env) :: starEach es X.env := by rfl) (hpl : (backTo pos (starEach es X.env)).any (·.1) = false := by rfl) :
    PE X (.Call (.Name x p) (e :: es) [] pos) (tMakeS C sp E t) := by
  refine ⟨fun pins s σ H Q I hyp => wpAny_Call_Name_kw (ld_glob I hg hm ?_ hdb)⟩
  refine PySem.W.callWith_K (h₀ := X.base) I.ok.mod.kin M.kp (thn (ha.run pos pins s σ H _ I hyp) fun us t1 ⟨vs, H1, I1, rr, want⟩ => ⟨I1.kIn, ?_⟩) he hpl
  have w1 := want (t1.heap.objs.size + 1) t1.heap.objs.size (I1.hok.fresh (Nat.le_succ _)) (I1.hok.fresh (Nat.le_refl _)) (Nat.ne_of_lt (Nat.lt_succ_self _))
  rw [List.append_nil] at w1
  have I2 := Inv.made (C := C) I1
  have r2 : Vals (V.ref (t1.heap.objs.size + 1) :: vs) (Value.ref (t1.heap.objs.size + 1) :: us) := .cons rfl rr
  have len2 : (Value.ref (t1.heap.objs.size + 1) :: us).length = ps.length := by
    have q := r2.length
    rw [F.len _ _ _ _ w1] at q
    exact q.symm
  have bnd := hb _ (Value.ref (t1.heap.objs.size + 1) :: us) I2.kIn (by rw [List.append_nil]; exact len2)
  rw [List.append_nil] at bnd
  refine wpAny_call (make_map (f := f) I1.kIn M.makes M.init (beq_iff_eq.mp M.fn) (codeAny_mono (F.run _ X.stack _ _ ⟨Value.ref (t1.heap.objs.size + 1) :: us, []⟩ (Value.ref (t1.heap.objs.size + 1) :: us) _ _ (E σ) (hr.make C us [])
    (I2.env0.make C us []) bnd r2 w1) fun r t2 got => ?_))
  cases r with
  | error er => exact hx σ pins _ _ er t2 I2 got
  | ok fl =>
    cases fl with
    | ret u =>
      obtain ⟨v, H2, I3, rv, ev, q3⟩ := I2.after got
      subst ev
      exact ⟨rv, ⟨V.ref (t1.heap.objs.size + 1), H2, I3, rfl, q3⟩⟩
    | next => exact got.elim
    | brk => exact got.elim
    | cont => exact got.elim
/-- o.m(e, ..), at the slots -/
def tMethW (C : Addr) (m : Str) (sp : Sp) (E : L2.St → XK) (ta : TE) (t : TA) : TE := fun σ H Q => tMeth C m sp [] (E σ) ta t σ H Q
theorem pe_methW {pl : Sem Bool} (he : PE X o ta) (c : Cls X.K C) (hm : Meth X.K C m f) (F : FnOk X.prog X.w X.K X.mg X.base CX k f fd ps sp) (hr : Room k X.A) (hb : Binds X.K fd ps []) (hx : ∀ σ, PassesAt CX X σ (E σ)) (ha : PA X (e :: es) t)
    (hst : starEach (e :: es) X.env = (false, eval e X.env) :: starEach es X.env := by rfl) (hpl : (backTo pos (starEach es X.env)).any (·.1) = false := by rfl)
    (ht : eval (.Call (.Attribute o m apos) (e :: es) [] pos) X.env = (do
      let whom ← eval o X.env
      standAt apos.atName
      let (fn, before) ← holding [whom] (getMethod whom m pl)
      callWith pos fn before (backTo pos (starEach (e :: es) X.env)) (backToKw pos (keywordEach [] X.env))) := by rfl) :
    PE X (.Call (.Attribute o m apos) (e :: es) [] pos) (tMethW C m sp E ta t) := by
  refine ⟨fun pins s σ H Q I hyp => PySem.W.methodCall_KW (pl := pl) (thn (he.run pins s σ H _ I hyp) fun u t1 ⟨x, H1, I1, rx, a, dx, fs, ex, ea, l, q⟩ => ?_) ht⟩
  subst ex
  obtain rfl : u = Value.ref a := rx
  refine getmeth_ok I1 ea c hm l (PySem.W.callWith_K (first := [.ref a]) (h₀ := X.base) I.ok.mod.kin hm.kp (thn (ha.run pos pins t1 σ H1 _ I1 q) fun us t2 ⟨vs, H2, I2, r, q2⟩ => ⟨I2.kIn, ?_⟩) hst hpl)
  have q3 := q2
  dsimp only at q3
  rw [List.append_nil] at q3
  exact run_fnS (us := .ref a :: us) (vs := .ref a :: vs) F hr hb (hx σ) I2 (.cons rfl r) q3
theorem pe_methW0 {pl : Sem Bool} (he : PE X o ta) (c : Cls X.K C) (hm : Meth X.K C m f) (F : FnOk X.prog X.w X.K X.mg X.base CX k f fd ps sp) (hr : Room k X.A) (hb : Binds X.K fd ps []) (hx : ∀ σ, PassesAt CX X σ (E σ))
    (ht : eval (.Call (.Attribute o m apos) [] [] pos) X.env = (do
      let whom ← eval o X.env
      standAt apos.atName
      let (fn, before) ← holding [whom] (getMethod whom m pl)
      callWith pos fn before (backTo pos (starEach [] X.env)) (backToKw pos (keywordEach [] X.env))) := by rfl) :
    PE X (.Call (.Attribute o m apos) [] [] pos) (tMethW C m sp E ta tNil) := by
  refine ⟨fun pins s σ H Q I hyp => PySem.W.methodCall_KW (pl := pl) (thn (he.run pins s σ H _ I hyp) fun u t1 ⟨x, H1, I1, rx, a, dx, fs, ex, ea, l, q⟩ => ?_) ht⟩
  subst ex
  obtain rfl : u = Value.ref a := rx
  exact getmeth_ok I1 ea c hm l (PySem.W.callWith_K0 (first := [.ref a]) I1.kIn hm.kp (run_fnS (us := [.ref a]) (vs := [.ref a]) F hr hb (hx σ) I1 (.cons rfl .nil) q))
end
/-! ### an error's class -/
/-- __init__(self, f): self.f = f -/
def spErr (C : Addr) (f : Str) : Sp := fun vs H Q _ => ∃ a u, vs = [.ref a, u] ∧ H a = some (exo a C none) ∧ ∀ dx, H dx = none → dx ≠ a → Q .non (upd (upd H dx (exd dx [(f, u)])) a (exo a C (some dx)))
/-- what the written part says of an error's class C (its __init__ at fI) -/
structure ErT (K : PySem.W.Frag) (C fI : Addr) (f : Str) : Prop where
  ox : OexC K C
  iC : PySem.W.findIn K (.ref C) "__init__" = some (some (.ref fI))
  tI : PySem.W.typeIn K (.ref fI) = some (.type "function")
  nf : PySem.W.findIn K (.ref C) f = some none
  xf : XfC K C
  ek : ExK K C
section
variable {K : PySem.W.Frag} {M : EC → Addr} {W : WX} {ps qs : Kn} {te ta tb : TE} {tr : TA} {t : TT} {ts tu : TS} {r : Res}
/-- raise C(e) -/
def tRs (C : Addr) (f : Str) (W : WX) (tr : TA) : TS := fun _ σ H => tMkO C (spErr C f) [] tr σ H fun cls d H' => W cls d σ H'
theorem js_raise {c : EC} {d : PyData} (h : JA K M W tr ps [dv K d]) : JS K M W (tRs (M c) c.fld W tr) ps (.er ⟨c, d⟩) := fun D σ F H fh S k => h σ F H _ fh S fun vs F1 H1 e1 a => by
  obtain ⟨v, rfl, p⟩ := allP1 a
  refine ⟨by show 1 ≤ 1000; decide, fun x hx => ⟨x, v, rfl, upd_same, fun dx hdx ne => ⟨rfl, dx, [(c.fld, v)], upd_same, ?_, ?_, ?_⟩⟩⟩
  · rw [upd_ne ne, upd_same]
  · rw [upd_ne ne] at hdx
    exact hdx
  · have h1 : H1 dx = none := by
      rw [upd_ne ne] at hdx
      exact hdx
    have key : Ex H1 (upd (del (upd (upd (upd H1 x (exo x (M c) none)) dx (exd dx [(c.fld, v)])) x (exo x (M c) (some dx))) x) dx (.xd [(c.fld, v)])) := fun b u q => by
      have nx : b ≠ x := ne_of_none q hx
      have nd : b ≠ dx := ne_of_none q h1
      rw [upd_ne nd, del_ne nx, upd_ne nx, upd_ne nd, upd_ne nx]
      exact q
    exact k dx v σ F1 _ (e1.trans (Gr.heap e1.fh key)) (fresh_back e1.hh h1) upd_same p S.1
/-! ### objects: a floor -/
def pD (p : Int × Int) : PyData := .tuple [.int p.1, .int p.2]
/-- an instance of C with one attribute, data that never changes -/
def ob1 (K : PySem.W.Frag) (C : Addr) (f : Str) (d : PyData) : PV := ⟨fun H v => ∃ a dx u, v = .ref a ∧ H a = some (.ins C dx [(f, u)]) ∧ Dp K H u d, fun e h => by
  obtain ⟨a, dx, u, h1, h2, h3⟩ := h
  exact ⟨a, dx, u, h1, e _ _ h2, dp_mono e h3⟩⟩
theorem je_fld {C : Addr} {f : Str} {d : PyData} (h : JV K M W te ps (ob1 K C f d)) (c : Cls K C) (n : NoAttr K C f) : JD K M W (tFld K te f) ps d := fun σ F H Q fh S k => h.go fh S fun v F1 H1 e p => by
  obtain ⟨a, dx, u, rfl, ha, hd⟩ := p
  exact ⟨a, C, dx, [(f, u)], u, rfl, e.fh _ _ ha, c, n, by simp [List.lookup], k u F1 H1 e hd⟩
/-- a constant of a class, read off the class -/
theorem je_cval {C : Addr} {mc : Value} {f : Str} {v : V} {u : Value} {P : PV} (h : JV K M W te ps (xv (.ref C))) (r : ClX.CRead K C mc) (c : ClX.CVal K C mc f v u) (hp : ∀ H, P.p H v) : JV K M W (ClX.tCVal K te f) ps P := fun σ F H Q fh S k => h.go fh S fun x F1 H1 e p => ⟨C, mc, v, u, p, r, c, k v F1 H1 e (hp F1)⟩
/-- a method that keeps a promise over data; self is known -/
theorem je_meth {α : Type} {args : α → List PV} {dom : α → Prop} {out : α → Out} {C : Addr} {m f : Str} {d : PyData} (a : α) (hs : JV K M W te ps (ob1 K C f d)) (hm : ¬ m = f) (Ps : List PV) (h : JA K M W tr ps Ps) (ea : args a = ob1 K C f d :: Ps) (hd : dom a) :
    JE K M W (tMethW C m (Prm K M args dom out) (WE W) te tr) ps (out a) := fun σ F H Q fh S k => hs.go fh S fun v F1 H1 e1 p => by
  obtain ⟨b, dx, u, rfl, hb, hdp⟩ := id p
  refine ⟨b, dx, [(f, u)], rfl, e1.fh _ _ hb, ?_, h σ F1 H1 _ e1.fh (S.mono e1.ff) fun vs F2 H2 e2 al => ⟨a, F2, e2.fh, ?_, hd, Then.step (e1.trans e2) k⟩⟩
  · have : (m == f) = false := by simpa using hm
    simp [List.lookup, this]
  · rw [ea, List.append_nil]
    exact .cons (PV.mn _ e2.ff p) al
/-- C(e) where __init__ promises: an instance with one attribute, or an error -/
def spMake (K : PySem.W.Frag) (M : EC → Addr) (C : Addr) (f : Str) {α : Type} (args : α → List PV) (dom : α → Prop) (out : α → Except Er PyData) : Sp := fun vs H Q E => ∃ (a : α) (F : Hp) (x dx : Addr) (us : List V), vs = .ref x :: us ∧ Ex F H ∧ H x = some (.ins C dx []) ∧ F x = none ∧ AllP F us (args a) ∧ dom a ∧
  (match out a with
    | .ok d => ∀ F' H' u, Gr F H F' H' → Dp K F' u d → F' x = none → Q .non (upd H' x (.ins C dx [(f, u)]))
    | .error e => ∀ d u F' H', Gr F H F' H' → H d = none → H' d = some (.xd [(e.c.fld, u)]) → Dp K F' u e.val → E (.ref (M e.c)) (some d) H')
def mkOut (K : PySem.W.Frag) (C : Addr) (f : Str) : Except Er PyData → Out
  | .ok d => .ok (ob1 K C f d)
  | .error e => .er e
theorem je_make {α : Type} {args : α → List PV} {dom : α → Prop} {out : α → Except Er PyData} {C : Addr} {f : Str} (a : α) (h : JA K M W tr ps (args a)) (hd : dom a) : JE K M W (tMakeS C (spMake K M C f args dom out) (WE W) tr) ps (mkOut K C f (out a)) := fun σ F H Q fh S k =>
  h σ F H _ fh S fun vs F1 H1 e1 al x dx hx hdx ne => by
    have exn : Ex H1 (upd (upd H1 dx (.own x)) x (.ins C dx [])) := fun b o q => by
      rw [upd_ne (ne_of_none q hx), upd_ne (ne_of_none q hdx)]
      exact q
    have g0 : Gr F1 H1 F1 (upd (upd H1 dx (.own x)) x (.ins C dx [])) := Gr.heap e1.fh exn
    have fx : F1 x = none := fresh_back e1.fh hx
    refine ⟨a, F1, x, dx, vs, by rw [List.append_nil], g0.fh, upd_same, fx, al, hd, ?_⟩
    cases ho : out a with
    | ok d =>
      rw [ho] at k
      refine fun F' H' u g dd fx' => ⟨rfl, ?_⟩
      have hx' : H' x = some (.ins C dx []) := g.hh _ _ upd_same
      have G1 : Gr F1 H1 F' (upd H' x (.ins C dx [(f, u)])) := ⟨g.ff, (g0.hh.trans g.hh).mut hx, g.fh.mut fx', (g0.trans g).nw⟩
      have G2 := gr_in G1 hx fx' (upd_same (H := H') (a := x) (o := .ins C dx [(f, u)]))
      exact k (.ref x) _ _ (e1.trans G2) ⟨x, dx, u, rfl, upd_same, dp_mono (Ex.new fx') dd⟩
    | error e =>
      rw [ho] at k
      exact fun d u F' H' g hn hd2 dp => k d u F' H' ((e1.trans g0).trans g) (fresh_back (e1.trans g0).hh hn) hd2 dp
/-! ### isinstance -/
def rIs1 (K : PySem.W.Frag) : List V → Hp → VK → Prop := rIsi K
/-- of data (not an object): its type's name -/
def tyName : PyData → String
  | .none => "NoneType"
  | .bool _ => "bool"
  | .int _ => "int"
  | .str _ => "str"
  | .list _ => "list"
  | .tuple _ => "tuple"
  | .dict _ => "dict"
theorem je_isTyI {i : Int} {T : String} {b : Bool} (h : JD K M W te ps (.int i)) (hT : kitB "int" T = some b) : JD K M W (tCB (rIsi K) (tCons te (tCons (tC (.ty T)) tNil))) ps (.bool b) := je_cb (ja_cons h (ja_cons je_x ja_nil)) fun vs F H fh a Q k => by
  obtain ⟨v, u, rfl, p, q⟩ := allP2 a
  rw [dp_int p, show u = V.ty T from q]
  exact ⟨.int i, .ty T, .type "int", .type T, b, rfl, .ty T, .base (.int i), kit_ty hT, k _ F H (Gr.refl fh) (.bl b)⟩
/-- of an instance of an own class -/
theorem je_isOb {C D : Addr} {f : Str} {d : PyData} {b : Bool} (h : JV K M W te ps (ob1 K C f d)) (cl : Cls K C) (ha : PySem.W.findIn K (.ref C) "__class__" = some (some (.builtin "object.__class__")))
    (hn : PySem.W.specialIn K (.builtin "object.__class__") "__get__" = some (some (.builtin "getset_descriptor.__get__"))) (htk : PySem.W.takesIn K (.builtin "object.__class__") = some true) (hm : PySem.W.mroIn K C (.type "object") = some true)
    (hk : PySem.W.kitOne K (.ref C) (.ref D) = some b) : JD K M W (tCB (rIsi K) (tCons te (tCons (tC (.ref D)) tNil))) ps (.bool b) := je_cb (ja_cons h (ja_cons je_x ja_nil)) fun vs F H fh a Q k => by
  obtain ⟨v, u, rfl, p, q⟩ := allP2 a
  rw [show u = V.ref D from q]
  obtain ⟨o, dx, w, rfl, ho, _⟩ := p
  exact ⟨.ref o, .ref D, .ref C, .ref D, b, rfl, .own D, .base (.ins (fh _ _ ho) cl ha hn htk hm), hk, k _ F H (Gr.refl fh) (.bl b)⟩
/-! ### an exception that a suite holds -/
def exv (K : PySem.W.Frag) (a dd : Addr) (f : Str) (d : PyData) : PV := ⟨fun H v => v = .ref a ∧ ∃ u, H dd = some (.xd [(f, u)]) ∧ Dp K H u d, fun e h => by
  obtain ⟨h1, u, h2, h3⟩ := h
  exact ⟨h1, u, e _ _ h2, dp_mono e h3⟩⟩
theorem je_xf {a dd C : Addr} {f : Str} {d : PyData} (h : JV K M W te ps (exv K a dd f d)) : JD K M W (tXf a (.ref C) (some dd) C f te) ps d := fun σ F H Q fh S k => h.go fh S fun v F1 H1 e p => by
  obtain ⟨rfl, u, h2, h3⟩ := p
  exact ⟨rfl, rfl, dd, [(f, u)], u, rfl, e.fh _ _ h2, by simp [List.lookup], k u F1 H1 e h3⟩
theorem je_isEx {a dd C : Addr} {f : Str} {d : PyData} {c : V} {cv : Value} {b : Bool} (h : JV K M W te ps (exv K a dd f d)) (T : ExK K C) (hc : ClsV c cv) (hk : PySem.W.kitOne K (.ref C) cv = some b) : JD K M W (tCB (rIsEx K a (.ref C) (some dd)) (tCons te (tCons (tC c) tNil))) ps (.bool b) := je_cb (ja_cons h (ja_cons je_x ja_nil)) fun vs F H fh al Q k => by
  obtain ⟨v, u, rfl, p, q⟩ := allP2 al
  obtain ⟨rfl, w, h2, h3⟩ := p
  rw [show u = c from q]
  exact ⟨C, c, cv, b, dd, _, rfl, T, rfl, rfl, fh _ _ h2, hc, hk, k _ F H (Gr.refl fh) (.bl b)⟩
theorem je_isExT2 {a dd C C1 C2 : Addr} {f : Str} {d : PyData} {b : Bool} (h : JV K M W te ps (exv K a dd f d)) (T : ExK K C) (hk : PySem.W.kitAny K (.ref C) [.ref C1, .ref C2] = some b) :
    JD K M W (tCB (rIsExT K a (.ref C) (some dd)) (tCons te (tCons (tTup (tCons (tC (.ref C1)) (tCons (tC (.ref C2)) tNil))) tNil))) ps (.bool b) := fun σ F H Q fh S k => h.go fh S fun v F1 H1 e p => by
  obtain ⟨rfl, w, h2, h3⟩ := p
  refine ⟨by show 2 ≤ sizeLine; decide, fun tp htp => ?_⟩
  refine ⟨C, tp, [.ref C1, .ref C2], [.ref C1, .ref C2], b, dd, [(f, w)], rfl, T, rfl, rfl, ?_, upd_same, .cons (.own C1) (.cons (.own C2) .nil), hk, k _ _ _ (e.trans (Gr.new e.fh htp)) (.bl b)⟩
  rw [upd_ne (ne_of_none (e.fh _ _ h2) htp)]
  exact e.fh _ _ h2
/-! ### try -/
theorem js_try_ok {tb : WX → TS} {Wo : WX} {l : List (Value × Nat × (Addr → Value → Option Addr → TS))} (hb : ∀ W', JS K M W' (tb W') ps r) (hr : ∀ e, r ≠ .er e) : JS K M W (fun D σ H => tb (wClauses K Wo D l) D σ H) ps r := fun D σ F H fh S k => hb _ D σ F H fh S (by
  cases r with
  | er e => exact absurd rfl (hr e)
  | nx qs => exact k
  | rt P => exact k
  | bk qs => exact k
  | ct qs => exact k)
/-- the suite of the clause that catches: slot i holds the error, no other slot is known -/
def Suite (K : PySem.W.Frag) (M : EC → Addr) (W : WX) (n i : Nat) (ts : Addr → Value → Option Addr → TS) (e : Er) (P : PV) : Prop :=
  ∀ a dd, JS K M W (ts a (.ref (M e.c)) (some dd)) ((List.replicate n none).set i (some (exv K a dd e.c.fld e.val))) (.rt P)
/-- which clause catches the error: the ones ahead of it do not -/
def Catch (K : PySem.W.Frag) (M : EC → Addr) (W : WX) (n : Nat) (e : Er) (P : PV) : List (Value × Nat × (Addr → Value → Option Addr → TS)) → Prop
  | [] => False
  | (c, i, ts) :: l => (PySem.W.exmOne K (.ref (M e.c)) c = some true ∧ Suite K M W n i ts e P) ∨ (PySem.W.exmOne K (.ref (M e.c)) c = some false ∧ Catch K M W n e P l)
theorem sl_bare {F : Hp} : ∀ σ : L2.St, Sl F σ (List.replicate σ.length none) := fun σ => ⟨by simp, fun i P h => by
  have := List.eq_of_mem_replicate (List.mem_of_getElem? h)
  cases this⟩
theorem catch_ok {Wo : WX} {D : Ends} {e : Er} {P : PV} {n : Nat} : ∀ {l : List (Value × Nat × (Addr → Value → Option Addr → TS))}, Catch K M W n e P l → ∀ {F H F1 H1 : Hp} {σ' : L2.St} {d : Addr} {u : V}, Wsh K M W n D F H (.rt P) → Gr F H F1 H1 → H d = none → H1 d = some (.xd [(e.c.fld, u)]) → Dp K F1 u e.val → σ'.length = n →
    wClauses K Wo D l (.ref (M e.c)) (some d) σ' H1
  | [], h, _, _, _, _, _, _, _, _, _, _, _, _, _ => h.elim
  | (c, i, ts) :: l, h, F, H, F1, H1, σ', d, u, k, g, hn, hd, dp, hl => by
    rcases h with ⟨hx, hs⟩ | ⟨hx, hc⟩
    · refine ⟨true, hx, fun _ a ha => ?_, fun z => Bool.noConfusion z⟩
      have fo : ∀ o, F1 d = some o → o = .xd [(e.c.fld, u)] := fun o ho => by
        have := g.fh _ _ ho
        rw [hd] at this
        exact (Option.some.inj this).symm
      -- the error's dict is told from here on
      have F2 : Ex F1 (upd F1 d (.xd [(e.c.fld, u)])) := fun b o q => by
        by_cases z : b = d
        · subst z
          rw [upd_same, fo o q]
        · rw [upd_ne z]
          exact q
      have fh2 : Ex (upd F1 d (.xd [(e.c.fld, u)])) H1 := fun b o q => by
        by_cases z : b = d
        · subst z
          rw [upd_same] at q
          cases q
          exact hd
        · rw [upd_ne z] at q
          exact g.fh b o q
      have S0 : Sl (upd F1 d (.xd [(e.c.fld, u)])) (σ'.set i (some (.ref a))) ((List.replicate n none).set i (some (exv K a d e.c.fld e.val))) := by
        have := (sl_bare (F := upd F1 d (.xd [(e.c.fld, u)])) σ').set (P := exv K a d e.c.fld e.val) (v := .ref a) i ⟨rfl, u, upd_same, dp_mono F2 dp⟩
        rw [hl] at this
        exact this
      refine hs a d _ (σ'.set i (some (.ref a))) (upd F1 d (.xd [(e.c.fld, u)])) H1 fh2 S0 fun v F3 H3 g3 p => ?_
      exact k v F3 H3 ⟨g.ff.trans (F2.trans g3.ff), g.hh.trans g3.hh, g3.fh, fun b hb hf => g3.nw b (fun z => by
        have := fresh_back g.hh z
        exact hb this) (by
          by_cases z : b = d
          · subst z
            exact absurd hn hb
          · rw [upd_ne z]
            exact g.nw b hb hf)⟩ p
    · exact ⟨false, hx, fun z => Bool.noConfusion z, fun _ => catch_ok hc k g hn hd dp hl⟩
/-- a def's end -/
def Fin (K : PySem.W.Frag) : Res → Out → Prop
  | .rt P, .ok R => P = R
  | .nx _, .ok R => R = dv K .none
  | .er e, .er e' => e = e'
  | _, _ => False
theorem fin_ok {N : List Str} {Ps : List PV} {vs : List V} {F H : Hp} {Q : VK} {E : XK} {o : Out} (h : JS K M (fun cls d _ H => E cls d H) ts (entry N Ps) r) (hf : Fin K r o) (fh : Ex F H) (al : AllP F vs Ps) (th : Then K M F H Q E o) : ts { nx := fun _ H' => Q .non H', rt := Q } (start N vs) H := by
  refine h _ _ F H fh (Sl.start al) ?_
  cases r with
  | rt P =>
    cases o with
    | ok R =>
      cases (show P = R from hf)
      exact fun v F' H' g p => th v F' H' g p
    | er e => exact hf.elim
  | nx qs =>
    cases o with
    | ok R =>
      cases (show R = dv K .none from hf)
      exact fun σ' F' H' g _ => th .non F' H' g .non
    | er e => exact hf.elim
  | er e =>
    cases o with
    | ok R => exact hf.elim
    | er e2 =>
      cases (show e = e2 from hf)
      exact fun d u σ' F' H' g n hd dp _ => th d u F' H' g n hd dp
  | bk qs =>
    cases o <;> exact hf.elim
  | ct qs =>
    cases o <;> exact hf.elim
theorem js_try_er {tb : WX → TS} {Wo : WX} {l : List (Value × Nat × (Addr → Value → Option Addr → TS))} {e : Er} {P : PV} (hb : ∀ W', JS K M W' (tb W') ps (.er e)) (hc : Catch K M W ps.length e P l) : JS K M W (fun D σ H => tb (wClauses K Wo D l) D σ H) ps (.rt P) := fun D σ F H fh S k =>
  hb _ D σ F H fh S fun d u σ' F' H' g hn hd dp hl => catch_ok hc k g hn hd dp hl
end
end EB

/-! EB6: loops that search, truth of a sequence, membership, slices, more sources. -/
namespace EB
open PySem PySem.Spec PyProof.Rows L2 Evl
/-- a turn that leaves the loop: returns, or raises -/
def Out.lv : Out → Res
  | .ok P => .rt P
  | .er e => .er e
def ends (ps : Kn) : Option Out → Res
  | none => .nx ps
  | some o => o.lv
section
variable {K : PySem.W.Frag} {M : EC → Addr} {W : WX} {ps qs : Kn} {te ta tb : TE} {tr : TA} {t : TT} {ts tu : TS} {r : Res} {vs : List Nat}
theorem lv_or (o : Out) : (∃ P, o.lv = .rt P) ∨ ∃ e, o.lv = .er e := by
  cases o with
  | ok P => exact .inl ⟨P, rfl⟩
  | er e => exact .inr ⟨e, rfl⟩
theorem range_first {β : Type} {c : Nat → Option β} {n : Nat} {o : β} (h : (List.range n).findSome? c = some o) : ∃ m, m < n ∧ c m = some o ∧ ∀ i, i < m → c i = none := by
  induction n with
  | zero => simp at h
  | succ n ih =>
    rw [List.range_succ, List.findSome?_append] at h
    cases q : (List.range n).findSome? c with
    | some o2 =>
      rw [q] at h
      have e : o2 = o := by simpa using h
      subst e
      obtain ⟨m, h1, h2, h3⟩ := ih q
      exact ⟨m, by omega, h2, h3⟩
    | none =>
      rw [q] at h
      have e : c n = some o := by simpa using h
      refine ⟨n, by omega, e, fun i hi => ?_⟩
      have := List.findSome?_eq_none_iff.mp q i (List.mem_range.mpr hi)
      exact this
/-- a loop that is left at the first turn i where c i tells how -/
theorem js_search {wi : TI} {g : TG} {ds : List PyData} {tb : TS} (c : Nat → Option Out) (hi : JI K M W wi ps ds)
    (hs : ∀ i d, ds[i]? = some d → ∃ qs, JG vs g ps (dv K d) qs ∧ (JS K M W tb qs (ends ps (c i)) ∨ (c i = none ∧ JS K M W tb qs (.ct ps)))) : JS K M W (tFor wi g tb) ps (ends ps ((List.range ds.length).findSome? c)) := by
  cases q : (List.range ds.length).findSome? c with
  | none =>
    have hn : ∀ i, i < ds.length → c i = none := fun i h => List.findSome?_eq_none_iff.mp q i (List.mem_range.mpr h)
    refine js_for (vs := vs) (fun _ => ps) ds.length hi rfl (Nat.le_refl _) (fun i d h hd => ?_) (.inl ⟨rfl, rfl⟩) (fun _ => rfl)
    obtain ⟨qs, hg, hb⟩ := hs i d hd
    refine ⟨qs, hg, ?_⟩
    rw [hn i h] at hb
    rcases hb with hb | ⟨_, hb⟩
    · exact .inl hb
    · exact .inr hb
  | some o =>
    obtain ⟨m, hm, hc, hn⟩ := range_first q
    refine js_for (vs := vs) (fun _ => ps) m hi rfl (Nat.le_of_lt hm) (fun i d h hd => ?_) (.inr ?_) (fun _ => rfl)
    · obtain ⟨qs, hg, hb⟩ := hs i d hd
      refine ⟨qs, hg, ?_⟩
      rw [hn i h] at hb
      rcases hb with hb | ⟨_, hb⟩
      · exact .inl hb
      · exact .inr hb
    · obtain ⟨qs, hg, hb⟩ := hs m _ (List.getElem?_eq_getElem hm)
      rw [hc] at hb
      rcases hb with hb | ⟨z, _⟩
      · exact ⟨_, qs, List.getElem?_eq_getElem hm, hg, hb, lv_or o⟩
      · cases z
/-- the truth of a sequence -/
theorem jt_truT {ds : List PyData} (h : JD K M W te ps (.tuple ds)) : JT K M W (fun σ H Q => te σ H fun x H' => ∃ k, TruV K x H' k ∧ Q k H') ps (!ds.isEmpty) := fun σ F H Q fh S k => h.go fh S fun v F1 H1 e p => by
  obtain ⟨a, xs, rfl, hs, hd⟩ := dp_tup p
  refine ⟨!ds.isEmpty, .inr (.inl ⟨xs, ex_t e.fh hs, ?_⟩), k F1 H1 e⟩
  cases hd <;> rfl
theorem jt_truL {ds : List PyData} (h : JD K M W te ps (.list ds)) : JT K M W (fun σ H Q => te σ H fun x H' => ∃ k, TruV K x H' k ∧ Q k H') ps (!ds.isEmpty) := fun σ F H Q fh S k => h.go fh S fun v F1 H1 e p => by
  obtain ⟨a, xs, rfl, hs, hd⟩ := dp_lst p
  refine ⟨!ds.isEmpty, .inl ⟨xs, ex_l e.fh hs, ?_⟩, k F1 H1 e⟩
  cases hd <;> rfl
/-- x in ns -/
theorem inV_ints (i : Int) : ∀ ns : List Int, inV (.int i) (ns.map V.int) = ns.contains i
  | [] => rfl
  | n :: r => by
    unfold inV
    rw [List.map_cons, List.any_cons, List.contains_cons]
    have := inV_ints i r
    unfold inV at this
    rw [this]
    congr 1
    show eqV (.int n) (.int i) = (i == n)
    unfold eqV
    exact BEq.comm
theorem flat_ints : ∀ ns : List Int, (ns.map V.int).all flatV = true
  | [] => rfl
  | n :: r => by
    rw [List.map_cons, List.all_cons, flat_ints r]
    rfl
theorem je_inT {i : Int} {ns : List Int} (ha : JD K M W ta ps (.int i)) (hb : JD K M W tb ps (.tuple (ns.map .int))) : JD K M W (tOp (rIn K false) ta tb) ps (.bool (ns.contains i)) := je_op ha hb fun x y F H fh p q Q k => by
  obtain ⟨a, xs, rfl, hs, hd⟩ := dp_tup q
  have e := dpAll_ints_eq hd
  subst e
  rw [dp_int p]
  refine ⟨a, _, rfl, .inr (ex_t fh hs), rfl, flat_ints ns, ?_⟩
  rw [inV_ints]
  exact k _ F H (Gr.refl fh) (.bl _)
theorem je_inL {i : Int} {ns : List Int} (ha : JD K M W ta ps (.int i)) (hb : JD K M W tb ps (.list (ns.map .int))) : JD K M W (tOp (rIn K false) ta tb) ps (.bool (ns.contains i)) := je_op ha hb fun x y F H fh p q Q k => by
  obtain ⟨a, xs, rfl, hs, hd⟩ := dp_lst q
  have e := dpAll_ints_eq hd
  subst e
  rw [dp_int p]
  refine ⟨a, _, rfl, .inl (ex_l fh hs), rfl, flat_ints ns, ?_⟩
  rw [inV_ints]
  exact k _ F H (Gr.refl fh) (.bl _)
/-- t[:k], not the whole; xs[:k] -/
def JO (K : PySem.W.Frag) (M : EC → Addr) (W : WX) (to : TO) (ps : Kn) (o : Option Int) : Prop := ∀ σ F H (Q : Option Int → Hp → Prop), Ex F H → Sl F σ ps → (∀ F' H', Gr F H F' H' → Q o H') → to σ H Q
theorem jo_none : JO K M W tNoPart ps none := fun σ F H Q fh S k => k F H (Gr.refl fh)
theorem jo_some {i : Int} (h : JD K M W te ps (.int i)) : JO K M W (tPart te) ps (some i) := fun σ F H Q fh S k => h.go fh S fun v F1 H1 e p => ⟨i, dp_int p, k F1 H1 e⟩
def cutD (ds : List PyData) (lo hi : Option Int) : List PyData := (ds.drop (HT.sIx ds.length 0 lo)).take (HT.sIx ds.length ds.length hi - HT.sIx ds.length 0 lo)
theorem cut_all {F : Hp} {xs : List V} {ds : List PyData} (h : DpAll K F xs ds) (lo hi : Option Int) : DpAll K F (cutV xs lo hi) (cutD ds lo hi) := by
  unfold cutV cutD
  rw [dpLength h]
  exact dpTake _ (dpDrop _ h)
theorem je_slT {ds : List PyData} {tl th : TO} {lo hi : Option Int} (h : JD K M W te ps (.tuple ds)) (h1 : JO K M W tl ps lo) (h2 : JO K M W th ps hi) (hw : ¬ (HT.sIx ds.length 0 lo = 0 ∧ HT.sIx ds.length ds.length hi = ds.length)) : JD K M W (tSl (rSlT K) te tl th) ps (.tuple (cutD ds lo hi)) := fun σ F H Q fh S k =>
  h.go fh S fun v F1 H1 e p => h1 σ F1 H1 _ e.fh (S.mono e.ff) fun F2 H2 e2 => h2 σ F2 H2 _ e2.fh ((S.mono e.ff).mono e2.ff) fun F3 H3 e3 => by
    obtain ⟨a, xs, rfl, hs, hd⟩ := dp_tup (dp_mono (e2.ff.trans e3.ff) p)
    refine ⟨a, xs, rfl, ex_t e3.fh hs, by rw [dpLength hd]; exact hw, fun p hp => k _ _ _ (((e.trans e2).trans e3).trans (Gr.new e3.fh hp)) (.tup (st_of upd_same) (dpAll_mono (Gr.new (o := .tup (cutV xs lo hi)) e3.fh hp).ff (cut_all hd lo hi)))⟩
theorem je_slL {ds : List PyData} {tl th : TO} {lo hi : Option Int} (h : JD K M W te ps (.list ds)) (h1 : JO K M W tl ps lo) (h2 : JO K M W th ps hi) : JD K M W (tSl (rSlL K) te tl th) ps (.list (cutD ds lo hi)) := fun σ F H Q fh S k =>
  h.go fh S fun v F1 H1 e p => h1 σ F1 H1 _ e.fh (S.mono e.ff) fun F2 H2 e2 => h2 σ F2 H2 _ e2.fh ((S.mono e.ff).mono e2.ff) fun F3 H3 e3 => by
    obtain ⟨a, xs, rfl, hs, hd⟩ := dp_lst (dp_mono (e2.ff.trans e3.ff) p)
    exact ⟨a, xs, rfl, ex_l e3.fh hs, fun p hp => k _ _ _ (((e.trans e2).trans e3).trans (Gr.new e3.fh hp)) (.lst (sq_of upd_same) (dpAll_mono (Gr.new (o := .lst (cutV xs lo hi)) e3.fh hp).ff (cut_all hd lo hi)))⟩
theorem cutD_map {α : Type} (f : α → PyData) (xs : List α) (j : Nat) : cutD (xs.map f) none (some (j : Int)) = (xs.take j).map f := by
  unfold cutD
  rw [HT.sIx_none, HT.sIx_nat, List.drop_zero, Nat.sub_zero, List.length_map, ← List.map_take]
  congr 1
  by_cases h : j ≤ xs.length
  · rw [Nat.min_eq_left h]
  · rw [Nat.min_eq_right (by omega), List.take_length, List.take_of_length_le (by omega)]
/-- t + u -/
theorem je_catT {ds es : List PyData} (ha : JD K M W ta ps (.tuple ds)) (hb : JD K M W tb ps (.tuple es)) (h1 : ds ≠ []) (h2 : es ≠ []) (hl : ds.length + es.length ≤ 100000) : JD K M W (tOp (rCatT K) ta tb) ps (.tuple (ds ++ es)) := je_op ha hb fun x y F H fh p q Q k => by
  obtain ⟨a, xs, rfl, hs, hd⟩ := dp_tup p
  obtain ⟨b, ys, rfl, hs2, hd2⟩ := dp_tup q
  have n1 : xs ≠ [] := fun z => by subst z; cases hd; exact h1 rfl
  have n2 : ys ≠ [] := fun z => by subst z; cases hd2; exact h2 rfl
  refine ⟨a, b, xs, ys, rfl, rfl, ex_t fh hs, ex_t fh hs2, n1, sz_of (by rw [dpLength hd, dpLength hd2]; exact hl), fun z => absurd z n2, fun _ p hp => k _ _ _ (Gr.new fh hp) (.tup (st_of upd_same) (dpApp (dpAll_mono (Gr.new (o := .tup (xs ++ ys)) fh hp).ff hd) (dpAll_mono (Gr.new (o := .tup (xs ++ ys)) fh hp).ff hd2)))⟩
/-- tuple(range(a, b)) -/
theorem rg_all {F : Hp} (a b : Int) : DpAll K F (rgV a b) ((rg a (b - a).toNat).map PyData.int) := by
  have e : rgV a b = (rg a (b - a).toNat).map V.int := by
    unfold rgV rg
    rw [List.map_map]
    rfl
  rw [e]
  exact dpAll_ints _
theorem je_tupRg2 {a b : Int} (ha : JD K M W ta ps (.int a)) (hb : JD K M W tb ps (.int b)) (ok : RgOk a b) : JD K M W (tTupRg (tRg2 ta tb)) ps (.tuple ((rg a (b - a).toNat).map .int)) := fun σ F H Q fh S k =>
  ha.go fh S fun x F1 H1 e1 p => hb.go e1.fh (S.mono e1.ff) fun y F2 H2 e2 q => ⟨a, b, dp_int p, dp_int q, ok, fun l hl => k _ _ _ ((e1.trans e2).trans (Gr.new e2.fh hl)) (.tup (st_of upd_same) (rg_all a b))⟩
end
end EB

/-! EB7: the end of a law's row where the top's loose numbers are told too. -/
namespace EB
open PySem PySem.Spec PyProof.Rows L2 Evl
theorem walk_ofX {l : PySem.W.OpenLaw} {n k : Nat} {q : Program} {loose : List Str} {XP : (Str → Option Value) → Heap → Prop} {YP : World → Heap → Prop} {d : DefRec} {K : Params → PySem.W.Frag} {CX : CXT} {sp : PySem.W.Frag → Sp} {x : Str}
    (hn : l.most = some n) (hn2 : n ≤ sizeLine) (hdf : d.params.defaults = []) (hr : Room k callerA)
    (hY : ∀ (w : World) (h : Heap), YP w h → (K w.params).In h)
    (F : ∀ (w : World) (mg : Str → Option Value) (fa : Addr) (h : Heap), (K w.params).In h → h.Ns mainGlobals mg → XP mg h → mg d.name = some (.ref fa) →
      ∃ fd : FuncData, (∀ (s : Shared) (u : Value), BindsTo s fd ⟨[u], []⟩ [(x, u)]) ∧
        ∀ base : Heap, (K w.params).In base → base.Ns mainGlobals mg → FnOk l.prog w (K w.params) mg base CX k fa fd [x] (sp (K w.params)))
    (hsp : ∀ (K : PySem.W.Frag) (H : Hp) (a : Addr) (ns : List Int), ns.length ≤ n → Only H → SqL K H a (ns.map V.int) → sp K [.ref a] H (fun v _ => v = .bl true) fun _ _ _ => False)
    (hCX : ∀ (H : Hp) (s : Shared) (e : Value) (t : Shared), CX [] H s (fun _ _ _ => False) e t → False) :
    PySem.W.WalkO q loose XP YP l.row.toRowW d [] (fun f vs => PySem.call f vs) := by
  refine Att.attach_call hn hdf fun w t0 t1 mg mb fa o pm cd doc a vs ns G Y ho hd hcd hmg hobj hints hlen hg => ?_
  have KX := hY w _ Y
  obtain ⟨fd, hb, hF⟩ := F w mg fa _ KX G.T.g G.X hmg
  exact law_call KX G.T.g G.T.b G.T.builtins G.T.nolimit hg hobj hints (Nat.le_trans hlen hn2) hr hF hb (fun H hO hS => hsp (K w.params) H a ns hlen hO hS) fun H e t => hCX H t1 e t
theorem loose_int {p : Program} {lv : List (Str × PySem.W.WData)} {mg : Str → Option Value} {h : Heap} {x : Str} {i : Int} (L : PySem.W.XL p lv mg h) (m : (x, PySem.W.WData.int i) ∈ lv) : ∃ t, mg x = some (.int i t) := by
  obtain ⟨v, e, r⟩ := L.2.val _ m
  cases r
  exact ⟨_, e⟩
section
variable {K : PySem.W.Frag} {A C : Addr} {b : Bool}
theorem kit_refl : PySem.W.kitOne K (.ref C) (.ref C) = some true := if_pos (beq_self_eq_true _)
theorem cls_ask (ic : PySem.W.isClsIn K C = true) (ty : PySem.W.typeIn K (.ref C) = some (.type "type")) : ((PySem.W.clsIn K C).isSome && PySem.W.typeIn K (.ref C) == some (.type "type")) = true := by
  have i2 : (PySem.W.clsIn K C).isSome = true := ic
  rw [i2, ty] <;> rfl
theorem kit_sub (ic : PySem.W.isClsIn K C = true) (ty : PySem.W.typeIn K (.ref C) = some (.type "type")) (su : PySem.W.subIn K (.ref A) (.ref C) = some b) (hb : A = C → b = true) : PySem.W.kitOne K (.ref A) (.ref C) = some b := by
  by_cases z : A = C
  · rw [hb z, z]
    exact kit_refl
  · unfold PySem.W.kitOne
    have ne : (Value.ref A == Value.ref C) = false := by
      refine Bool.eq_false_iff.mpr fun q => z ?_
      exact Value.ref.inj (beq_iff_eq.mp q)
    rw [ne, if_neg Bool.false_ne_true]
    show (if ((PySem.W.clsIn K C).isSome && PySem.W.typeIn K (.ref C) == some (.type "type")) = true then PySem.W.subIn K (.ref A) (.ref C) else none) = some b
    rw [if_pos (cls_ask ic ty)]
    exact su
theorem kit_off (ic : PySem.W.isClsIn K C = true) (ty : PySem.W.typeIn K (.ref C) = some (.type "type")) (sa : PySem.W.subIn K (.ref A) (.ref A) = some true) (su : PySem.W.subIn K (.ref A) (.ref C) = some false) : PySem.W.kitOne K (.ref A) (.ref C) = some false := kit_sub ic ty su fun z => by
  rw [← z, sa] at su
  cases su
theorem kit_val (su : PySem.W.subIn K (.ref A) (.type "ValueError") = some true) : PySem.W.kitOne K (.ref A) (.type "ValueError") = some true := by
  unfold PySem.W.kitOne
  have ne : (Value.ref A == Value.type "ValueError") = false := Bool.eq_false_iff.mpr fun q => by
    have := beq_iff_eq.mp q
    cases this
  rw [ne, if_neg Bool.false_ne_true]
  show (if PySem.W.kitMeta "ValueError" = true then PySem.W.subIn K (.ref A) (.type "ValueError") else none) = some true
  rw [if_pos (by decide +kernel)]
  exact su
theorem kit_any2 {C1 C2 : Addr} (h1 : PySem.W.kitOne K (.ref A) (.ref C1) = some false) (h2 : PySem.W.kitOne K (.ref A) (.ref C2) = some false) : PySem.W.kitAny K (.ref A) [.ref C1, .ref C2] = some false := kitAny_cons h1 (fun _ => kitAny_cons h2 (fun _ => kitAny_nil) fun z => nomatch z) fun z => nomatch z
theorem exm_sub (sb : PySem.W.subIn K (.ref C) (.type "BaseException") = some true) (ic : PySem.W.isClsIn K C = true) (ty : PySem.W.typeIn K (.ref C) = some (.type "type")) (su : PySem.W.subIn K (.ref A) (.ref C) = some b) : PySem.W.exmOne K (.ref A) (.ref C) = some b := by
  have e1 : (PySem.W.subIn K (.ref C) (.type "BaseException") == some true) = true := by rw [sb] <;> rfl
  show (if (PySem.W.subIn K (.ref C) (.type "BaseException") == some true) = true then (if ((PySem.W.clsIn K C).isSome && PySem.W.typeIn K (.ref C) == some (.type "type")) = true then PySem.W.subIn K (.ref A) (.ref C) else none) else none) = some b
  rw [if_pos e1, if_pos (cls_ask ic ty)]
  exact su
end
end EB

/-! EB8: data that may be compared. -/
namespace EB
open PySem PySem.Spec PyProof.Rows L2 Evl
structure Ok (d : PyData) (n : Nat) : Prop where
  c : PyData.canLay0 d = true
  d : PyData.depth d ≤ n
theorem ok_all {n : Nat} : ∀ {ds : List PyData}, (∀ d ∈ ds, Ok d n) → PyData.canLayAll0 ds = true ∧ PyData.depthAll ds ≤ n
  | [], _ => by simp [PyData.canLayAll0, PyData.depthAll]
  | d :: r, h => by
    have h1 := h d (List.mem_cons_self)
    have h2 := ok_all (n := n) (ds := r) fun e he => h e (List.mem_cons_of_mem _ he)
    simp only [PyData.canLayAll0, PyData.depthAll, Bool.and_eq_true]
    exact ⟨⟨h1.c, h2.1⟩, Nat.max_le.mpr ⟨h1.d, h2.2⟩⟩
theorem ok_tup {n : Nat} {ds : List PyData} (h : ∀ d ∈ ds, Ok d n) : Ok (.tuple ds) (n + 1) := by
  have h2 := ok_all h
  refine ⟨by simp only [PyData.canLay0]; exact h2.1, ?_⟩
  simp only [PyData.depth]
  omega
theorem ok_lst {n : Nat} {ds : List PyData} (h : ∀ d ∈ ds, Ok d n) : Ok (.list ds) (n + 1) := by
  have h2 := ok_all h
  refine ⟨by simp only [PyData.canLay0]; exact h2.1, ?_⟩
  simp only [PyData.depth]
  omega
theorem ok_int {n : Nat} {i : Int} : Ok (.int i) n := ⟨by simp only [PyData.canLay0], by simp only [PyData.depth]; omega⟩
theorem ok_bl {n : Nat} {b : Bool} : Ok (.bool b) n := ⟨by simp only [PyData.canLay0], by simp only [PyData.depth]; omega⟩
theorem ok_str {n : Nat} {x : Str} (h : PyData.strOk x = true) : Ok (.str x) n := ⟨by simp only [PyData.canLay0]; exact h, by simp only [PyData.depth]; omega⟩
theorem Ok.up {d : PyData} {n m : Nat} (h : Ok d n) (q : n ≤ m) : Ok d m := ⟨h.c, Nat.le_trans h.d q⟩
theorem Ok.sh {d : PyData} {n : Nat} (h : Ok d n) (hn : n ≤ 64) : SeqAt.shaped d = true := by
  unfold SeqAt.shaped
  rw [h.c, Bool.true_and]
  exact decide_eq_true (Nat.le_trans h.d hn)
theorem ok_ints {n : Nat} (xs : List Int) : ∀ d ∈ xs.map PyData.int, Ok d n := fun d hd => by
  obtain ⟨i, _, rfl⟩ := List.mem_map.mp hd
  exact ok_int
section
variable {K : PySem.W.Frag} {M : EC → Addr} {W : WX} {ps : Kn} {ta tb : TE}
/-- the same data on both sides -/
theorem je_eqR {d : PyData} {n : Nat} (ha : JD K M W ta ps d) (hb : JD K M W tb ps d) (o : Ok d n) (hn : n ≤ 64 := by decide) : JD K M W (tOp (rEqD K) ta tb) ps (.bool true) := je_is (je_eqD ha hb (o.sh hn) (o.sh hn)) (by rw [SeqAt.eqv_refl d o.c])
theorem je_neR {d : PyData} {n : Nat} (ha : JD K M W ta ps d) (hb : JD K M W tb ps d) (o : Ok d n) (hn : n ≤ 64 := by decide) : JD K M W (tOp (rNeD K) ta tb) ps (.bool false) := je_is (je_neD ha hb (o.sh hn) (o.sh hn)) (by rw [SeqAt.eqv_refl d o.c]; rfl)
end
end EB

/-! EB9: a list of one's own that is written to (appended to, items set), then handed on as data. -/
namespace EB
open PySem PySem.Spec PyProof.Rows L2 Evl
theorem dpSet {K : PySem.W.Frag} {H : Hp} : ∀ {vs : List V} {ds : List PyData} {j : Nat} {v : V} {d : PyData}, DpAll K H vs ds → Dp K H v d → DpAll K H (vs.set j v) (ds.set j d)
  | _, _, _, _, _, .nil, _ => .nil
  | _, _, 0, _, _, .cons a b, p => .cons p b
  | _, _, j + 1, _, _, .cons a b, p => .cons a (dpSet b p)
inductive LR
  | nx (qs : Kn) (ds : List PyData)
  | rt (d : PyData)
def LW (K : PySem.W.Frag) (D : Addr) (F1 H1 : Hp) (Dn : Ends) (F : Hp) : LR → Prop
  | .nx qs es => ∀ σ' F' H', Acc K D F1 H1 F' H' es → Ex F F' → Sl F' σ' qs → Dn.nx σ' H'
  | .rt d => ∀ v F' H', Gr F1 H1 F' H' → Dp K F' v d → Dn.rt v H'
theorem LW.step {K : PySem.W.Frag} {D : Addr} {F1 H1 : Hp} {Dn : Ends} {F F' : Hp} {R : LR} (e : Ex F F') (k : LW K D F1 H1 Dn F R) : LW K D F1 H1 Dn F' R := by
  cases R with
  | nx qs es => exact fun σ2 F2 H2 A2 e2 S2 => k σ2 F2 H2 A2 (e.trans e2) S2
  | rt d => exact k
def JL (K : PySem.W.Frag) (M : EC → Addr) (W : WX) (D : Addr) (F1 H1 : Hp) (ts : TS) (ps : Kn) (ds : List PyData) (R : LR) : Prop := ∀ Dn σ F H, Acc K D F1 H1 F H ds → Sl F σ ps → LW K D F1 H1 Dn F R → ts Dn σ H
section
variable {K : PySem.W.Frag} {M : EC → Addr} {W : WX} {D : Addr} {F1 H1 : Hp} {ps qs rs : Kn} {ts tu : TS} {te ti : TE} {ds es : List PyData} {R : LR} {t : TT}
theorem jl_js (h : JS K M W ts ps (.nx qs)) : JL K M W D F1 H1 ts ps ds (.nx qs ds) := fun Dn σ F H A S k => h Dn σ F H A.gr.fh S fun σ' F' H' g s => k σ' F' H' (A.step g) g.ff s
theorem jl_weak (h : JL K M W D F1 H1 ts ps ds (.nx qs es)) (w : Weak qs rs) : JL K M W D F1 H1 ts ps ds (.nx rs es) := fun Dn σ F H A S k => h Dn σ F H A S fun σ' F' H' A' e s => k σ' F' H' A' e (s.weak w)
theorem jl_is {es' : List PyData} (h : JL K M W D F1 H1 ts ps ds (.nx qs es)) (e : es = es') : JL K M W D F1 H1 ts ps ds (.nx qs es') := e ▸ h
theorem jl_seq (h1 : JL K M W D F1 H1 ts ps ds (.nx qs es)) (h2 : JL K M W D F1 H1 tu qs es R) : JL K M W D F1 H1 (tSeq ts tu) ps ds R := fun Dn σ F H A S k => h1 { Dn with nx := tu Dn } σ F H A S fun σ' F' H' A' e S' => h2 Dn σ' F' H' A' S' (LW.step e k)
theorem jl_if {b : Bool} (h : JT K M W t ps b) (h1 : b = true → JL K M W D F1 H1 ts ps ds R) (h2 : b = false → JL K M W D F1 H1 tu ps ds R) : JL K M W D F1 H1 (tIfS t ts tu) ps ds R := fun Dn σ F H A S k => h σ F H _ A.gr.fh S fun F' H' g => by
  have k' := LW.step g.ff k
  cases b with
  | true => exact h1 rfl Dn σ F' H' (A.step g) (S.mono g.ff) k'
  | false => exact h2 rfl Dn σ F' H' (A.step g) (S.mono g.ff) k'
theorem sl_at {F : Hp} {σ : L2.St} {i : Nat} {v : V} (S : Sl F σ ps) (h : ps[i]? = some (some (xv v))) : σ[i]? = some (some v) := by
  obtain ⟨u, hu, e⟩ := S.2 i _ h
  rw [hu, show u = v from e]
/-- xs.append(e) -/
theorem jl_app {i : Nat} {ta : TA} {d : PyData} (hi : ps[i]? = some (some (xv (.ref D)))) (hD : H1 D = none) (h : JA K M W ta ps [dv K d]) (hl : ds.length < 90000) : JL K M W D F1 H1 (tDrop (tBM K "list" rAppend (tVar i) ta)) ps ds (.nx ps (ds ++ [d])) := fun Dn σ F H A S k => by
  obtain ⟨acc0, h0, _⟩ := A.at_
  refine ⟨.ref D, sl_at S hi, (.inl ⟨rfl, acc0, sq_of h0⟩), h σ F H _ A.gr.fh S fun vs F2 H2 g a => ?_⟩
  obtain ⟨v, rfl, p⟩ := allP1 a
  have A2 := A.step g
  obtain ⟨acc, h2, hd⟩ := A2.at_
  exact ⟨D, acc, v, rfl, rfl, h2, sz_lt (by rw [A2.len h2]; omega), k σ F2 _ (A2.app hD h2 p) g.ff (S.mono g.ff)⟩
theorem ixN_nat {n j : Nat} (h : j < n) : ixN n (j : Int) = some j := by
  unfold ixN
  rw [if_pos (by omega), if_pos (by omega)]
  simp
theorem acc_set {F H : Hp} {acc : List V} {j : Nat} {v : V} {d : PyData} (A : Acc K D F1 H1 F H ds) (hD : H1 D = none) (h : H D = some (.lst acc)) (p : Dp K F v d) : Acc K D F1 H1 F (upd H D (.lst (acc.set j v))) (ds.set j d) := by
  obtain ⟨acc2, h2, hd⟩ := A.at_
  rw [h] at h2
  cases h2
  exact ⟨gr_mut A.gr hD A.off, A.off, _, upd_same, dpSet hd p⟩
/-- xs[k] = e -/
theorem jl_set {i j : Nat} {d : PyData} (hi : ps[i]? = some (some (xv (.ref D)))) (hD : H1 D = none) (h : JD K M W te ps d) (hk : JD K M W ti ps (.int (j : Nat))) (hj : j < ds.length) : JL K M W D F1 H1 (tAsg te (gSub (tVar i) ti rSetL)) ps ds (.nx ps (ds.set j d)) := fun Dn σ F H A S k =>
  h.go A.gr.fh S fun v F2 H2 g p => by
    refine ⟨.ref D, sl_at S hi, hk.go g.fh (S.mono g.ff) fun u F3 H3 g3 q => ?_⟩
    have A3 := (A.step g).step g3
    obtain ⟨acc, h3, hd⟩ := A3.at_
    exact ⟨D, acc, (j : Nat), j, rfl, dp_int q, h3, by rw [A3.len h3]; exact ixN_nat hj, k σ F3 _ (acc_set A3 hD h3 (dp_mono g3.ff p)) (g.ff.trans g3.ff) ((S.mono g.ff).mono g3.ff)⟩
/-- xs[k] = e where e is an int that may be read off xs itself -/
theorem jl_setI {i j : Nat} {v : Int} (hi : ps[i]? = some (some (xv (.ref D)))) (hD : H1 D = none) (h : JD K M W te (ps.set i (some (dv K (.list ds)))) (.int v)) (hk : JD K M W ti ps (.int (j : Nat))) (hj : j < ds.length) : JL K M W D F1 H1 (tAsg te (gSub (tVar i) ti rSetL)) ps ds (.nx ps (ds.set j (.int v))) := fun Dn σ F H A S k => by
  obtain ⟨acc0, h0, hd0⟩ := A.at_
  have fo : Ex F (upd F D (.lst acc0)) := Ex.new A.off
  have fh : Ex (upd F D (.lst acc0)) H := fun b o q => by
    by_cases z : b = D
    · subst z
      rw [upd_same] at q
      cases q
      exact h0
    · rw [upd_ne z] at q
      exact A.gr.fh b o q
  have S2 : Sl (upd F D (.lst acc0)) σ (ps.set i (some (dv K (.list ds)))) := by
    refine ⟨by rw [List.length_set]; exact S.1, fun b P hb => ?_⟩
    by_cases z : b = i
    · subst z
      have hl : b < ps.length := (List.getElem?_eq_some_iff.mp hi).1
      rw [List.getElem?_set_self hl] at hb
      cases hb
      exact ⟨_, sl_at S hi, .lst (sq_of upd_same) (dpAll_mono fo hd0)⟩
    · rw [List.getElem?_set_ne (fun y => z y.symm)] at hb
      exact (S.mono fo).2 b P hb
  refine h.go fh S2 fun x F2 H2 g p => ?_
  rw [dp_int p]
  have A2 : Acc K D F1 H1 F H2 ds := ⟨⟨A.gr.ff, A.gr.hh.trans g.hh, A.gr.fh.trans g.hh, A.gr.nw⟩, A.off, acc0, g.hh _ _ h0, hd0⟩
  refine ⟨.ref D, sl_at S hi, hk.go A2.gr.fh S fun u F3 H3 g3 q => ?_⟩
  have A3 := A2.step g3
  obtain ⟨acc, h3, hd⟩ := A3.at_
  exact ⟨D, acc, (j : Nat), j, rfl, dp_int q, h3, by rw [A3.len h3]; exact ixN_nat hj, k σ F3 _ (acc_set A3 hD h3 (.int v)) g3.ff (S.mono g3.ff)⟩
/-- for, the list grows or changes in every turn -/
theorem jl_for {vs : List Nat} {wi : TI} {g : TG} {tb : TS} (xs : List PyData) (f : Nat → Kn) (l : Nat → List PyData) (hi : JI K M W wi ps xs) (h0 : f 0 = ps) (hl0 : l 0 = ds)
    (hs : ∀ (j : Nat) (d : PyData), xs[j]? = some d → ∃ qs, JG vs g (f j) (dv K d) qs ∧ JL K M W D F1 H1 tb qs (l j) (.nx (f (j + 1)) (l (j + 1)))) : JL K M W D F1 H1 (tFor wi g tb) ps ds (.nx (f xs.length) (l xs.length)) := fun Dn σ F H A S k => hi σ F H _ A.gr.fh S fun J F2 H2 e1 it => by
  refine ⟨fun i n σ' H' => n = xs.length - i ∧ i ≤ xs.length ∧ ∃ F', Acc K D F1 H1 F' H' (l i) ∧ Ex F2 F' ∧ Sl F' σ' (f i), ⟨xs.length, by omega, Nat.zero_le _, F2, by rw [hl0]; exact A.step e1, Ex.refl _, by rw [h0]; exact S.mono e1.ff⟩, ?_⟩
  rintro i n σ' H' ⟨rfl, him, F3, A3, e3, S3⟩
  by_cases hlt : i < xs.length
  · refine .inr ⟨it.go i H' (e3.trans A3.gr.fh) hlt, fun σ4 H4 => ∃ F4, Acc K D F1 H1 F4 H4 (l (i + 1)) ∧ Ex F2 F4 ∧ Sl F4 σ4 (f (i + 1)), fun σ4 H4 q => ⟨xs.length - (i + 1), by omega, rfl, hlt, q⟩, fun x H4 y => ?_⟩
    obtain ⟨F4, e4, dx⟩ := it.yld i _ F3 H' x H4 e3 A3.gr.fh (List.getElem?_eq_getElem hlt) y
    obtain ⟨qs, hg, hb⟩ := hs i _ (List.getElem?_eq_getElem hlt)
    have A4 := A3.step e4
    refine hg x σ' F4 H4 _ e4.fh (S3.mono e4.ff) dx fun σ5 F5 H5 e5 S5 _ => ?_
    exact hb _ σ5 F5 H5 (A4.step e5) S5 fun σ6 F6 H6 A6 e6 S6 => ⟨F6, A6, ((e3.trans e4.ff).trans e5.ff).trans e6, S6⟩
  · have hem : i = xs.length := by omega
    subst hem
    exact .inl ⟨it.stop _ H' (e3.trans A3.gr.fh) (Nat.le_refl _), k σ' F3 H' A3 (e1.ff.trans e3) S3⟩
theorem jl_ret {i : Nat} (hi : ps[i]? = some (some (xv (.ref D)))) (hD : H1 D = none) : JL K M W D F1 H1 (tRet (tVar i)) ps ds (.rt (.list ds)) := fun Dn σ F H A S k => by
  obtain ⟨F3, g3, d3, _⟩ := A.done hD
  exact ⟨.ref D, sl_at S hi, k _ F3 H g3 d3⟩
/-- xs = [] -/
theorem jl_new {i : Nat} {d : PyData} (h : ∀ D F1 H1, H1 D = none → JL K M W D F1 H1 tu (ps.set i (some (xv (.ref D)))) [] (.rt d)) : JS K M W (tSeq (tAsg (tLst tNil) (gName i)) tu) ps (.rt (dv K d)) := fun Dn σ F H fh S k =>
  ⟨sz_of (by decide), fun D hD => h D F H hD Dn _ F _ (Acc.start fh hD) (S.set i rfl) fun v F' H' g p => k v F' H' g p⟩
/-- xs = list(e), e a list -/
theorem jl_copy {i : Nat} {d : PyData} (he : JD K M W te ps (.list ds)) (h : ∀ D F1 H1, H1 D = none → JL K M W D F1 H1 tu (ps.set i (some (xv (.ref D)))) ds (.rt d)) : JS K M W (tSeq (tAsg (tCB (rListS K) (tCons te tNil)) (gName i)) tu) ps (.rt (dv K d)) := fun Dn σ F H fh S k =>
  he.go fh S fun v F1 H1 e p => by
    obtain ⟨a, xs, rfl, hs, hd⟩ := dp_lst p
    exact ⟨a, xs, rfl, .inl (ex_l e.fh hs), fun D hD => h D F1 H1 hD Dn _ F1 _ ⟨gr_mut (Gr.refl e.fh) hD (fresh_back e.fh hD), fresh_back e.fh hD, xs, upd_same, hd⟩ ((S.mono e.ff).set i rfl) fun v F' H' g p => k v F' H' (e.trans g) p⟩
end
end EB

/-! EB10: max and min, lists that stand in the heap, == by an own __eq__, is True. -/
namespace EB
open PySem PySem.Spec PyProof.Rows L2 Evl
/-- a list that was made at run time -/
def lv (K : PySem.W.Frag) (ds : List PyData) : PV := ⟨fun H v => ∃ a xs, v = .ref a ∧ H a = some (.lst xs) ∧ DpAll K H xs ds, fun e h => by
  obtain ⟨a, xs, h1, h2, h3⟩ := h
  exact ⟨a, xs, h1, e _ _ h2, dpAll_mono e h3⟩⟩
theorem lv_dv {K : PySem.W.Frag} {ds : List PyData} : ∀ (H : Hp) (v : V), (lv K ds).p H v → (dv K (.list ds)).p H v := fun H v h => by
  obtain ⟨a, xs, rfl, h2, h3⟩ := h
  exact .lst (sq_of h2) h3
section
variable {K : PySem.W.Frag} {M : EC → Addr} {W : WX} {ps : Kn} {ta tb te : TE} {tr : TA}
theorem je_lvd {ds : List PyData} (h : JV K M W te ps (lv K ds)) : JD K M W te ps (.list ds) := je_weak h lv_dv
theorem je_lstV {ds : List PyData} (h : JA K M W tr ps (ds.map (dv K))) (hl : ds.length ≤ 100000 := by first | decide | omega | (simp; done)) : JV K M W (tLst tr) ps (lv K ds) := fun σ F H Q fh S k =>
  h σ F H _ fh S fun vs F1 H1 e1 a => ⟨sz_of (by rw [dpLength a.dv]; exact hl), fun p hp => k _ _ _ (e1.trans (Gr.new e1.fh hp)) ⟨p, vs, rfl, upd_same, dpAll_mono (Gr.new (o := .lst vs) e1.fh hp).ff a.dv⟩⟩
theorem je_catV {ds es : List PyData} (ha : JV K M W ta ps (lv K ds)) (hb : JV K M W tb ps (lv K es)) (hl : ds.length + es.length ≤ 100000) : JV K M W (tOp rCat ta tb) ps (lv K (ds ++ es)) := je_op ha hb fun x y F H fh p q Q k => by
  obtain ⟨a, xs, rfl, hx, hd⟩ := p
  obtain ⟨b, ys, rfl, hy, he⟩ := q
  exact ⟨a, b, xs, ys, rfl, rfl, fh _ _ hx, fh _ _ hy, sz_of (by rw [dpLength hd, dpLength he]; exact hl), fun p hp => k _ _ _ (Gr.new fh hp) ⟨p, _, rfl, upd_same, dpApp (dpAll_mono (Gr.new (o := .lst (xs ++ ys)) fh hp).ff hd) (dpAll_mono (Gr.new (o := .lst (xs ++ ys)) fh hp).ff he)⟩⟩
theorem je_maxI {ns : List Int} {m : Int} (h : JD K M W te ps (.list (ns.map .int))) (hm : m ∈ ns) (hx : ∀ y ∈ ns, y ≤ m) : JD K M W (tCB (rMax K) (tCons te tNil)) ps (.int m) := je_cb (ja_cons h ja_nil) fun vs F H fh b Q k => by
  obtain ⟨v, rfl, p⟩ := allP1 b
  obtain ⟨a, xs, rfl, hs, hd⟩ := dp_lst p
  have e := dpAll_ints_eq hd
  subst e
  refine ⟨a, ns, rfl, ex_l fh hs, List.length_pos_of_mem hm, fun m2 h2 h3 => ?_⟩
  rw [show m2 = m from Int.le_antisymm (hx _ h2) (h3 _ hm)]
  exact k _ F H (Gr.refl fh) (.int m)
theorem je_minI {ns : List Int} {m : Int} (h : JD K M W te ps (.list (ns.map .int))) (hm : m ∈ ns) (hx : ∀ y ∈ ns, m ≤ y) : JD K M W (tCB (rMin K) (tCons te tNil)) ps (.int m) := je_cb (ja_cons h ja_nil) fun vs F H fh b Q k => by
  obtain ⟨v, rfl, p⟩ := allP1 b
  obtain ⟨a, xs, rfl, hs, hd⟩ := dp_lst p
  have e := dpAll_ints_eq hd
  subst e
  refine ⟨a, ns, rfl, ex_l fh hs, List.length_pos_of_mem hm, fun m2 h2 h3 => ?_⟩
  rw [show m2 = m from Int.le_antisymm (h3 _ hm) (hx _ h2)]
  exact k _ F H (Gr.refl fh) (.int m)
theorem je_isB {a b : Bool} (ha : JD K M W ta ps (.bool a)) (hb : JD K M W tb ps (.bool b)) : JD K M W (tOp rIsB ta tb) ps (.bool (decide (a = b))) := je_op ha hb fun x y F H fh p q Q k => ⟨a, b, dp_bl p, dp_bl q, k _ F H (Gr.refl fh) (.bl _)⟩
/-- two objects of a class with the same data -/
def eqR (K : PySem.W.Frag) (C : Addr) (f : Str) : Addr → Addr → Hp → Prop := fun a b H => ∃ (F : Hp) (d : PyData), Ex F H ∧ (ob1 K C f d).p F (.ref a) ∧ (ob1 K C f d).p F (.ref b) ∧ Ok d 60
theorem je_eqOwn {C : Addr} {f : Str} {d : PyData} (ha : JV K M W ta ps (ob1 K C f d)) (hb : JV K M W tb ps (ob1 K C f d)) (o : Ok d 60) : JD K M W (tOp (rEqG (DIns C (eqR K C f))) ta tb) ps (.bool true) := je_op ha hb fun x y F H fh p q Q k => by
  obtain ⟨a, dx, u, rfl, h1, h2⟩ := id p
  obtain ⟨b, dy, v, rfl, h3, h4⟩ := id q
  exact ⟨⟨a, b, dx, dy, _, _, rfl, rfl, fh _ _ h1, fh _ _ h3, F, d, fh, p, q, o⟩, fun H' e => k _ F H' (Gr.heap fh e) (.bl true)⟩
/-- a list of one's own is told as data from here on -/
theorem jl_tell {D : Addr} {F1 H1 : Hp} {tu : TS} {i : Nat} {ds : List PyData} {d : PyData} (hi : ps[i]? = some (some (xv (.ref D)))) (hD : H1 D = none) (h : JS K M W tu (ps.set i (some (lv K ds))) (.rt (dv K d))) : JL K M W D F1 H1 tu ps ds (.rt d) := fun Dn σ F H A S k => by
  obtain ⟨acc, h0, hd⟩ := A.at_
  have fo : Ex F (upd F D (.lst acc)) := Ex.new A.off
  have g3 := gr_in A.gr hD A.off h0
  have S2 : Sl (upd F D (.lst acc)) σ (ps.set i (some (lv K ds))) := by
    refine ⟨by rw [List.length_set]; exact S.1, fun b P hb => ?_⟩
    by_cases z : b = i
    · subst z
      have hl : b < ps.length := (List.getElem?_eq_some_iff.mp hi).1
      rw [List.getElem?_set_self hl] at hb
      cases hb
      exact ⟨_, sl_at S hi, D, acc, rfl, upd_same, dpAll_mono fo hd⟩
    · rw [List.getElem?_set_ne (fun y => z y.symm)] at hb
      exact (S.mono fo).2 b P hb
  exact h Dn σ _ H g3.fh S2 fun v F' H' g p => k v F' H' (g3.trans g) p
/-- xs = a + b: a list of one's own from here on -/
theorem jl_cat {tu : TS} {i : Nat} {ds es : List PyData} {d : PyData} (ha : JV K M W ta ps (lv K ds)) (hb : JV K M W tb ps (lv K es)) (hl : ds.length + es.length ≤ 100000) (h : ∀ D F1 H1, H1 D = none → JL K M W D F1 H1 tu (ps.set i (some (xv (.ref D)))) (ds ++ es) (.rt d)) : JS K M W (tSeq (tAsg (tOp rCat ta tb) (gName i)) tu) ps (.rt (dv K d)) := fun Dn σ F H fh S k =>
  ha.go fh S fun v F1 H1 e p => hb.go e.fh (S.mono e.ff) fun u F2 H2 e2 q => by
    obtain ⟨a, xs, rfl, hx, hd⟩ := (lv K ds).mn e2.ff p
    obtain ⟨b, ys, rfl, hy, he⟩ := q
    exact ⟨a, b, xs, ys, rfl, rfl, e2.fh _ _ hx, e2.fh _ _ hy, sz_of (by rw [dpLength hd, dpLength he]; exact hl), fun D hD => h D F2 H2 hD Dn _ F2 _ ⟨gr_mut (Gr.refl e2.fh) hD (fresh_back e2.fh hD), fresh_back e2.fh hD, _, upd_same, dpApp hd he⟩ (((S.mono e.ff).mono e2.ff).set i rfl) fun v F' H' g p => k v F' H' ((e.trans e2).trans g) p⟩
end
end EB

/-! EB11: len by an own __len__, lists that a call has made anew (told by nobody yet), lists times n, turned lists, sums, counts, isinstance of lists. -/
namespace EB
open PySem PySem.Spec PyProof.Rows L2 Evl
section
variable {X : Cx} {CX : CXT} {n : Nat} {C f : Addr} {fd : FuncData} {ps : List Str} {sp : Sp} {E : XK}
/-- the callee runs somewhere below -/
theorem own_run {A1 : Around} {pins : List (Addr × Obj)} {σ : L2.St} {H : Hp} {s : Shared} {Q : VK} {us : List Value} {vs : List V} (sb : Sub X n A1) (F : FnOk X.prog X.w X.K X.mg X.base CX n f fd ps sp) (hb : Binds X.K fd ps []) (hx : Passes CX X E)
    (I : Inv X pins σ H s) (r : Vals vs us) (h : sp vs H Q E) : wpAny (model X.prog X.w) A1 (call (.ref f) us) (EP X pins σ Q) X.xe s := by
  have e0 : Env0 X.prog X.w X.K X.mg X.base A1 X.stack s H := by
    have e := I.env0
    exact ⟨by rw [sb.fr]; exact e.frames, e.mod, e.bs, e.bsz, e.funs, e.frf, e.hok, e.bare⟩
  have hl : us.length = ps.length := by rw [← r.length]; exact F.len _ _ _ _ h
  have b := hb s us I.kIn (by rw [List.append_nil]; exact hl)
  rw [List.append_nil] at b
  refine wpAny_call (codeAny_mono (F.run A1 X.stack s H ⟨us, []⟩ us vs Q E sb.room e0 b r h) fun r s' hq => ?_)
  cases r with
  | error e => exact hx pins σ H s e s' I hq
  | ok fl =>
    cases fl with
    | ret u => exact I.after hq
    | next => exact False.elim hq
    | brk => exact False.elim hq
    | cont => exact False.elim hq
theorem passF : Passes (L2.CX X.prog X.w) X (fun _ _ _ => False) := fun pins σ H s e s' I c => by
  obtain ⟨_, _, _, _, _, _, _, _, _, _, _, _, h⟩ := c
  exact h.elim
/-- len(o), o an instance of C with an own __len__ -/
def rLenO (C : Addr) (sp : Sp) (E : XK) : List V → Hp → VK → Prop := fun xs H Q => ∃ a dx fs, xs = [V.ref a] ∧ H a = some (.ins C dx fs) ∧ sp [.ref a] H (fun v H' => ∃ i : Int, v = .int i ∧ 0 ≤ i ∧ i < 2 ^ 63 ∧ Q (.int i) H') E
theorem call_lenOwn (F : FnOk X.prog X.w X.K X.mg X.base CX n f fd ps sp) (hr : Room (n + 1) X.A) (hs : PySem.W.findIn X.K (.ref C) "__len__" = some (some (.ref f))) (hf : PySem.W.isFn X.K (.ref f) = true) (hb : Binds X.K fd ps []) (hx : Passes CX X E) : CallR X (.builtin "len") (rLenO C sp E) := by
  intro pins s σ H xs us Q I r h
  obtain ⟨a, dx, fs, rfl, ha, hsp⟩ := h
  obtain ⟨u, rfl, rx⟩ := vals1 r
  cases rx
  obtain ⟨mA, J, _⟩ := ins_get I.hok ha
  obtain ⟨od, J, _⟩ := J.look
  obtain ⟨m, hF⟩ := I.fr
  refine PySem.W.len_K hF I.ok.mod.kin J hs hf (thn (own_run (A1 := X.A.in1) (Sub.in1 ⟨hr, rfl⟩) F hb hx I (show Vals [V.ref a] [Value.ref a] from .cons rfl .nil) hsp) fun v s' hv => ?_)
  obtain ⟨y, H', I', ry, i, rfl, h0, h1, q⟩ := hv
  obtain ⟨t, rfl⟩ := ry
  exact ⟨⟨h0, h1⟩, .int i, H', I'.tok _, ⟨_, rfl⟩, q⟩
end
section
variable {K : PySem.W.Frag} {M : EC → Addr} {W : WX} {ps qs : Kn} {te ta tb : TE} {tr : TA} {t : TT} {ts tu : TS} {r : Res} {vs : List Nat}
theorem je_lenO {α : Type} {args : α → List PV} {dom : α → Prop} {out : α → Out} {C : Addr} {f : Str} {d : PyData} {i : Int} (a : α) (h : JV K M W te ps (ob1 K C f d)) (ea : args a = [ob1 K C f d]) (hd : dom a) (ho : out a = .ok (dv K (.int i))) (h0 : 0 ≤ i) (h1 : i < 2 ^ 63) :
    JD K M W (tCB (rLenO C (Prm K M args dom out) fun _ _ _ => False) (tCons te tNil)) ps (.int i) := je_cb (ja_cons h ja_nil) fun vs F H fh b Q k => by
  obtain ⟨v, rfl, p⟩ := allP1 b
  obtain ⟨o, dx, u, rfl, h2, h3⟩ := id p
  refine ⟨o, dx, _, rfl, fh _ _ h2, a, F, fh, by rw [ea]; exact .cons p .nil, hd, ?_⟩
  rw [ho]
  intro v F' H' g p2
  exact ⟨i, dp_int p2, h0, h1, k _ F' H' g (.int i)⟩
/-! ### lists made anew -/
/-- a list that was just made: nobody else has it -/
def JN (K : PySem.W.Frag) (te : TE) (ps : Kn) (ds : List PyData) : Prop := ∀ σ F H Q, Ex F H → Sl F σ ps → (∀ D F' H', Acc K D F H F' H' ds → H D = none → Q (.ref D) H') → te σ H Q
theorem Acc.pre {D : Addr} {F0 H0 F1 H1 F H : Hp} {ds : List PyData} (g : Gr F0 H0 F1 H1) (a : Acc K D F1 H1 F H ds) : Acc K D F0 H0 F H ds := ⟨g.trans a.gr, a.off, a.at_⟩
theorem jn_told (h : JN K te ps ds) : JD K M W te ps (.list ds) := fun σ F H Q fh S k => h σ F H Q fh S fun D F' H' A hD => by
  obtain ⟨F3, g3, d3, _⟩ := A.done hD
  exact k _ F3 H' g3 d3
theorem jn_is {ds es : List PyData} (h : JN K te ps ds) (e : ds = es) : JN K te ps es := e ▸ h
def PrmN (K : PySem.W.Frag) {α : Type} (args : α → List PV) (dom : α → Prop) (out : α → List PyData) : Sp := fun vs H Q _ => ∃ a F, Ex F H ∧ AllP F vs (args a) ∧ dom a ∧ (∀ D F' H', Acc K D F H F' H' (out a) → H D = none → Q (.ref D) H')
theorem jn_call {α : Type} {args : α → List PV} {dom : α → Prop} {out : α → List PyData} {E : L2.St → XK} (a : α) (h : JA K M W tr ps (args a)) (hd : dom a) : JN K (tCallS (PrmN K args dom out) E tr) ps (out a) := fun σ F H Q fh S k =>
  h σ F H _ fh S fun vs F1 H1 e1 b => ⟨a, F1, e1.fh, b, hd, fun D F' H' A hD => k D F' H' (A.pre e1) (fresh_back e1.hh hD)⟩
/-- [e for x in ds if b], made anew -/
theorem jn_lc {α : Type} {wi : TI} {g : TG} (xs : List α) (enc : α → PyData) (b : α → Bool) (e : α → PyData) {W' : WX} (hi : JI K M W wi ps (xs.map enc)) (hlen : xs.length ≤ 90000)
    (hs : ∀ x ∈ xs, ∃ qs, JG vs g (wipeK ps vs) (dv K (enc x)) qs ∧ JT K M W' t qs (b x) ∧ (b x = true → JD K M W' te qs (e x))) : JN K (tLc wi g t te vs) ps ((xs.filter b).map e) := fun σ F H Q fh S k => hi σ F H _ fh S fun J F1 H1 e1 it D hD => by
  refine ⟨fun i n H' => n = xs.length - i ∧ i ≤ xs.length ∧ ∃ F', Acc K D F1 H1 F' H' (((xs.take i).filter b).map e), ⟨xs.length, by omega, Nat.zero_le _, F1, Acc.start e1.fh hD⟩, ?_⟩
  rintro i n H' ⟨rfl, him, F2, A⟩
  have accLen : (((xs.take i).filter b).map e).length ≤ i := by
    rw [List.length_map]
    have := List.length_filter_le b (xs.take i)
    rw [List.length_take] at this
    omega
  by_cases hlt : i < xs.length
  · have hx : xs[i]? = some xs[i] := List.getElem?_eq_getElem hlt
    have hmem : xs[i] ∈ xs := List.getElem_mem hlt
    have hex : (xs.map enc)[i]? = some (enc xs[i]) := by rw [List.getElem?_map, hx] <;> rfl
    refine .inr ⟨it.go i H' (A.gr.ff.trans A.gr.fh) (by rw [List.length_map]; exact hlt), fun H3 => ∃ F3, Acc K D F1 H1 F3 H3 (((xs.take (i + 1)).filter b).map e), fun H3 q => ⟨xs.length - (i + 1), by omega, rfl, hlt, q⟩, fun x H3 y => ?_⟩
    obtain ⟨F3, e3, dx⟩ := it.yld i _ F2 H' x H3 A.gr.ff A.gr.fh hex y
    have A3 := A.step e3
    obtain ⟨qs, hg, ht, he⟩ := hs xs[i] hmem
    refine hg x (wipe σ vs) F3 H3 _ e3.fh ((S.mono (e1.ff.trans A3.gr.ff)).wipe vs) dx fun σ4 F4 H4 e4 S4 u4 => ⟨wipe_upto (upto_wipe.trans u4), ht σ4 F4 H4 _ e4.fh S4 fun F5 H5 e5 => ?_⟩
    have A5 := (A3.step e4).step e5
    have ff := filter_take_succ (b := b) hx
    cases hb : b xs[i] with
    | true =>
      rw [hb] at ff
      show te σ4 H5 _
      refine (he hb).go e5.fh (S4.mono e5.ff) fun v F6 H6 e6 p => ?_
      have A6 := A5.step e6
      obtain ⟨acc, h6, _⟩ := A6.at_
      refine ⟨acc, h6, sz_lt (by rw [A6.len h6]; omega), F6, ?_⟩
      rw [ff, List.map_append]
      exact A6.app hD h6 p
    | false =>
      rw [hb] at ff
      show ∃ F3, Acc K D F1 H1 F3 H5 _
      rw [ff]
      simp only [Bool.false_eq_true, if_false, List.append_nil]
      exact ⟨F5, A5⟩
  · have hem : i = xs.length := by omega
    subst hem
    rw [List.take_length] at A
    exact .inl ⟨it.stop _ H' (A.gr.ff.trans A.gr.fh) (by rw [List.length_map]; exact Nat.le_refl _), k D F2 H' (A.pre e1) (fresh_back e1.hh hD)⟩
/-- xs * k -/
theorem jn_rep {ds : List PyData} {k : Nat} (ha : JV K M W ta ps (lv K ds)) (hb : JD K M W tb ps (.int (k : Nat))) (hl : ds.length * k ≤ 100000) (hk : k ≤ 100000) : JN K (tOp rRep ta tb) ps (List.replicate k ds).flatten := fun σ F H Q fh S c =>
  ha.go fh S fun x F1 H1 e1 p => hb.go e1.fh (S.mono e1.ff) fun y F2 H2 e2 q => by
    obtain ⟨a, xs, rfl, hx, hd⟩ := (lv K ds).mn e2.ff p
    refine ⟨a, k, xs, rfl, dp_int q, e2.fh _ _ hx, by omega, by omega, sz_of (by rw [dpLength hd, Int.toNat_natCast]; exact hl), fun D hD => ?_⟩
    have rep : ∀ j : Nat, DpAll K F2 (List.replicate j xs).flatten (List.replicate j ds).flatten := fun j => by
      induction j with
      | zero => exact .nil
      | succ j ih =>
        rw [List.replicate_succ, List.replicate_succ, List.flatten_cons, List.flatten_cons]
        exact dpApp hd ih
    exact c D F2 _ ⟨gr_mut (e1.trans e2) (fresh_back (e1.trans e2).hh hD) (fresh_back e2.fh hD), fresh_back e2.fh hD, _, upd_same, by rw [Int.toNat_natCast]; exact rep k⟩ (fresh_back (e1.trans e2).hh hD)
/-- list(e) -/
theorem jn_listL {ds : List PyData} (h : JD K M W te ps (.list ds)) : JN K (tCB (rListS K) (tCons te tNil)) ps ds := fun σ F H Q fh S c => h.go fh S fun v F1 H1 e p => by
  obtain ⟨a, xs, rfl, hs, hd⟩ := dp_lst p
  exact ⟨a, xs, rfl, .inl (ex_l e.fh hs), fun D hD => c D F1 _ ⟨gr_mut e (fresh_back e.hh hD) (fresh_back e.fh hD), fresh_back e.fh hD, xs, upd_same, hd⟩ (fresh_back e.hh hD)⟩
/-- xs = e, a list of one's own from here on -/
theorem jl_own {i : Nat} {ds : List PyData} {d : PyData} (he : JN K te ps ds) (h : ∀ D F1 H1, H1 D = none → JL K M W D F1 H1 tu (ps.set i (some (xv (.ref D)))) ds (.rt d)) : JS K M W (tSeq (tAsg te (gName i)) tu) ps (.rt (dv K d)) := fun Dn σ F H fh S k =>
  he σ F H _ fh S fun D F1 H1 A hD => h D F H hD Dn _ F1 H1 A ((S.mono A.gr.ff).set i rfl) fun v F' H' g p => k v F' H' g p
/-- .. told as data in between: reads of a list of one's own -/
theorem acc_told {D : Addr} {F1 H1 F H : Hp} {i : Nat} {σ : L2.St} {ds : List PyData} (A : Acc K D F1 H1 F H ds) (S : Sl F σ ps) (hi : ps[i]? = some (some (xv (.ref D)))) : ∃ F0, Ex F F0 ∧ Ex F0 H ∧ Sl F0 σ (ps.set i (some (dv K (.list ds)))) ∧ ∀ a, a ≠ D → F0 a = F a := by
  obtain ⟨acc0, h0, hd0⟩ := A.at_
  have fo : Ex F (upd F D (.lst acc0)) := Ex.new A.off
  refine ⟨upd F D (.lst acc0), fo, fun b o q => ?_, ⟨by rw [List.length_set]; exact S.1, fun b P hb => ?_⟩, fun a ha => upd_ne ha⟩
  · by_cases z : b = D
    · subst z
      rw [upd_same] at q
      cases q
      exact h0
    · rw [upd_ne z] at q
      exact A.gr.fh b o q
  · by_cases z : b = i
    · subst z
      have hl : b < ps.length := (List.getElem?_eq_some_iff.mp hi).1
      rw [List.getElem?_set_self hl] at hb
      cases hb
      exact ⟨_, sl_at S hi, .lst (sq_of upd_same) (dpAll_mono fo hd0)⟩
    · rw [List.getElem?_set_ne (fun y => z y.symm)] at hb
      exact (S.mono fo).2 b P hb
/-- a test that reads the list -/
theorem jl_ifR {D : Addr} {F1 H1 : Hp} {i : Nat} {ds : List PyData} {R : LR} {b : Bool} (hi : ps[i]? = some (some (xv (.ref D)))) (h : JT K M W t (ps.set i (some (dv K (.list ds)))) b) (h1 : b = true → JL K M W D F1 H1 ts ps ds R) (h2 : b = false → JL K M W D F1 H1 tu ps ds R) : JL K M W D F1 H1 (tIfS t ts tu) ps ds R := fun Dn σ F H A S k => by
  obtain ⟨F0, x0, x1, S0, _⟩ := acc_told A S hi
  refine h σ F0 H _ x1 S0 fun F' H' g => ?_
  have A' : Acc K D F1 H1 F H' ds := by
    obtain ⟨acc, hh, hd⟩ := A.at_
    exact ⟨⟨A.gr.ff, A.gr.hh.trans g.hh, A.gr.fh.trans g.hh, A.gr.nw⟩, A.off, acc, g.hh _ _ hh, hd⟩
  cases b with
  | true => exact h1 rfl Dn σ F H' A' S k
  | false => exact h2 rfl Dn σ F H' A' S k
/-- y = list(xs), xs one's own: a copy that is data -/
theorem jl_copyOf {D : Addr} {F1 H1 : Hp} {i j : Nat} {ds : List PyData} (hi : ps[i]? = some (some (xv (.ref D)))) : JL K M W D F1 H1 (tAsg (tCB (rListS K) (tCons (tVar i) tNil)) (gName j)) ps ds (.nx (ps.set j (some (dv K (.list ds)))) ds) := fun Dn σ F H A S k => by
  obtain ⟨acc, h0, hd⟩ := A.at_
  refine ⟨.ref D, sl_at S hi, D, acc, rfl, .inl (sq_of h0), fun l hl => ?_⟩
  have g := Gr.new (o := .lst acc) A.gr.fh hl
  exact k _ _ _ (A.step g) g.ff ((S.mono g.ff).set j (.lst (sq_of upd_same) (dpAll_mono g.ff hd)))
theorem jl_copyT {D : Addr} {F1 H1 : Hp} {i j : Nat} {ds : List PyData} (hi : ps[i]? = some (some (xv (.ref D)))) : JL K M W D F1 H1 (tAsg (tCB (rTupS K) (tCons (tVar i) tNil)) (gName j)) ps ds (.nx (ps.set j (some (dv K (.tuple ds)))) ds) := fun Dn σ F H A S k => by
  obtain ⟨acc, h0, hd⟩ := A.at_
  refine ⟨.ref D, sl_at S hi, D, acc, rfl, .inl ⟨sq_of h0, fun l hl => ?_⟩⟩
  have g := Gr.new (o := .tup acc) A.gr.fh hl
  exact k _ _ _ (A.step g) g.ff ((S.mono g.ff).set j (.tup (st_of upd_same) (dpAll_mono g.ff hd)))
theorem jl_rt {D : Addr} {F1 H1 : Hp} {ds : List PyData} {d : PyData} (h : JD K M W te ps d) : JL K M W D F1 H1 (tRet te) ps ds (.rt d) := fun Dn σ F H A S k => h.go A.gr.fh S fun v F' H' g p => k v F' H' (A.gr.trans g) p
theorem jl_rtS {D : Addr} {F1 H1 : Hp} {ds : List PyData} {d : PyData} (h : JL K M W D F1 H1 ts ps ds (.rt d)) : JL K M W D F1 H1 (tSeq ts tu) ps ds (.rt d) := fun Dn σ F H A S k => h { Dn with nx := tu Dn } σ F H A S k
/-- return of a list made anew -/
theorem fin_new {N : List Str} {Ps : List PV} {us : List V} {F H : Hp} {Q : VK} {ds : List PyData} (h : JN K te (entry N Ps) ds) (fh : Ex F H) (al : AllP F us Ps) (th : ∀ D F' H', Acc K D F H F' H' ds → H D = none → Q (.ref D) H') : tRet te { nx := fun _ H' => Q .non H', rt := Q } (start N us) H := h _ F H _ fh (Sl.start al) th
theorem fin_new1 {N : List Str} {Ps : List PV} {us : List V} {F H : Hp} {Q : VK} {ds : List PyData} (h1 : JS K M W ts (entry N Ps) (.nx qs)) (h : JN K te qs ds) (fh : Ex F H) (al : AllP F us Ps) (th : ∀ D F' H', Acc K D F H F' H' ds → H D = none → Q (.ref D) H') : tSeq ts (tRet te) { nx := fun _ H' => Q .non H', rt := Q } (start N us) H :=
  h1 { nx := tRet te { nx := fun _ H' => Q .non H', rt := Q }, rt := Q } _ F H fh (Sl.start al) fun σ' F' H' g S' => h σ' F' H' _ g.fh S' fun D F2 H2 A hD => th D F2 H2 (A.pre g) (fresh_back g.hh hD)
/-! ### more of lists -/
theorem je_isL {ds : List PyData} {T : String} {b : Bool} (h : JD K M W te ps (.list ds)) (hT : kitB "list" T = some b) : JD K M W (tCB (rIsi K) (tCons te (tCons (tC (.ty T)) tNil))) ps (.bool b) := je_cb (ja_cons h (ja_cons je_x ja_nil)) fun vs F H fh a Q k => by
  obtain ⟨v, u, rfl, p, q⟩ := allP2 a
  obtain ⟨o, xs, rfl, hs, hd⟩ := dp_lst p
  rw [show u = V.ty T from q]
  have ty : TyX K H (.ref o) (.type "list") := by
    rcases ex_l fh hs with (z | ⟨ob, z⟩) | ⟨ob, its, n, z, c, _⟩
    · exact .base (.lst z)
    · exact .base (.frz z)
    · exact .kList z c
  exact ⟨.ref o, .ty T, .type "list", .type T, b, rfl, .ty T, ty, kit_ty hT, k _ F H (Gr.refl fh) (.bl b)⟩
theorem je_sum {ns : List Int} (h : JD K M W te ps (.list (ns.map .int))) : JD K M W (tCB (rSum K) (tCons te tNil)) ps (.int ns.sum) := je_cb (ja_cons h ja_nil) fun vs F H fh b Q k => by
  obtain ⟨v, rfl, p⟩ := allP1 b
  obtain ⟨a, xs, rfl, hs, hd⟩ := dp_lst p
  have e := dpAll_ints_eq hd
  subst e
  exact ⟨a, ns, rfl, ex_l fh hs, k _ F H (Gr.refl fh) (.int _)⟩
theorem je_count {ns : List Int} {i : Int} (h : JD K M W te ps (.list (ns.map .int))) (hr : JA K M W tr ps [dv K (.int i)]) : JD K M W (tBM K "list" (rCntI K) te tr) ps (.int (ns.count i : Nat)) := fun σ F H Q fh S k => h.go fh S fun v F1 H1 e p => by
  obtain ⟨a, xs, rfl, hs, hd⟩ := dp_lst p
  have e2 := dpAll_ints_eq hd
  subst e2
  refine ⟨.inl ⟨rfl, _, ex_l e.fh hs⟩, hr σ F1 H1 _ e.fh (S.mono e.ff) fun vs F2 H2 e2 b => ?_⟩
  obtain ⟨v, rfl, p2⟩ := allP1 b
  exact ⟨a, ns, i, rfl, by rw [dp_int p2], ex_l (e.fh.trans e2.hh) hs, k _ F2 H2 (e.trans e2) (.int _)⟩
theorem dpRev {F : Hp} : ∀ {us : List V} {ds : List PyData}, DpAll K F us ds → DpAll K F us.reverse ds.reverse
  | _, _, .nil => .nil
  | _, _, .cons h t => by
    rw [List.reverse_cons, List.reverse_cons]
    exact dpApp (dpRev t) (.cons h .nil)
theorem je_rev {ds : List PyData} (h : JD K M W te ps (.list ds)) : JD K M W (tRevL K te) ps (.list ds.reverse) := fun σ F H Q fh S k => h.go fh S fun v F1 H1 e p => by
  obtain ⟨a, xs, rfl, hs, hd⟩ := dp_lst p
  exact ⟨a, xs, rfl, ex_l e.fh hs, fun D hD => k _ _ _ (e.trans (Gr.new e.fh hD)) (.lst (sq_of upd_same) (dpAll_mono (Gr.new (o := .lst xs.reverse) e.fh hD).ff (dpRev hd)))⟩
/-- xs[:k], made anew, as an operand of + -/
theorem je_slLV {ds : List PyData} {tl th : TO} {lo hi : Option Int} (h : JD K M W te ps (.list ds)) (h1 : JO K M W tl ps lo) (h2 : JO K M W th ps hi) : JV K M W (tSl (rSlL K) te tl th) ps (lv K (cutD ds lo hi)) := fun σ F H Q fh S k =>
  h.go fh S fun v F1 H1 e p => h1 σ F1 H1 _ e.fh (S.mono e.ff) fun F2 H2 e2 => h2 σ F2 H2 _ e2.fh ((S.mono e.ff).mono e2.ff) fun F3 H3 e3 => by
    obtain ⟨a, xs, rfl, hs, hd⟩ := dp_lst (dp_mono (e2.ff.trans e3.ff) p)
    exact ⟨a, xs, rfl, ex_l e3.fh hs, fun p hp => k _ _ _ (((e.trans e2).trans e3).trans (Gr.new e3.fh hp)) ⟨p, _, rfl, upd_same, dpAll_mono (Gr.new (o := .lst (cutV xs lo hi)) e3.fh hp).ff (cut_all hd lo hi)⟩⟩
/-- xs[:k] of a list or of a tuple -/
def rSlQ (K : PySem.W.Frag) : V → Option Int → Option Int → Hp → VK → Prop := fun x lo hi H Q => rSlL K x lo hi H Q ∨ rSlA K x lo hi H Q
theorem je_slQL {ds : List PyData} {tl th : TO} {lo hi : Option Int} (h : JD K M W te ps (.list ds)) (h1 : JO K M W tl ps lo) (h2 : JO K M W th ps hi) : JD K M W (tSl (rSlQ K) te tl th) ps (.list (cutD ds lo hi)) := fun σ F H Q fh S k =>
  h.go fh S fun v F1 H1 e p => h1 σ F1 H1 _ e.fh (S.mono e.ff) fun F2 H2 e2 => h2 σ F2 H2 _ e2.fh ((S.mono e.ff).mono e2.ff) fun F3 H3 e3 => by
    obtain ⟨a, xs, rfl, hs, hd⟩ := dp_lst (dp_mono (e2.ff.trans e3.ff) p)
    exact .inl ⟨a, xs, rfl, ex_l e3.fh hs, fun p hp => k _ _ _ (((e.trans e2).trans e3).trans (Gr.new e3.fh hp)) (.lst (sq_of upd_same) (dpAll_mono (Gr.new (o := .lst (cutV xs lo hi)) e3.fh hp).ff (cut_all hd lo hi)))⟩
theorem cut_whole {ds : List PyData} {lo hi : Option Int} (h : HT.sIx ds.length 0 lo = 0 ∧ HT.sIx ds.length ds.length hi = ds.length) : cutD ds lo hi = ds := by
  unfold cutD
  rw [h.1, h.2, List.drop_zero, Nat.sub_zero, List.take_length]
theorem je_slQT {ds : List PyData} {tl th : TO} {lo hi : Option Int} (h : JD K M W te ps (.tuple ds)) (h1 : JO K M W tl ps lo) (h2 : JO K M W th ps hi) : JD K M W (tSl (rSlQ K) te tl th) ps (.tuple (cutD ds lo hi)) := fun σ F H Q fh S k =>
  h.go fh S fun v F1 H1 e p => h1 σ F1 H1 _ e.fh (S.mono e.ff) fun F2 H2 e2 => h2 σ F2 H2 _ e2.fh ((S.mono e.ff).mono e2.ff) fun F3 H3 e3 => by
    have p3 := dp_mono (e2.ff.trans e3.ff) p
    obtain ⟨a, xs, rfl, hs, hd⟩ := dp_tup p3
    refine .inr ⟨a, xs, rfl, ex_t e3.fh hs, fun w => k _ _ _ ((e.trans e2).trans e3) ?_, fun _ p hp => k _ _ _ (((e.trans e2).trans e3).trans (Gr.new e3.fh hp)) (.tup (st_of upd_same) (dpAll_mono (Gr.new (o := .tup (cutV xs lo hi)) e3.fh hp).ff (cut_all hd lo hi)))⟩
    rw [dpLength hd] at w
    rw [cut_whole w]
    exact p3
/-- enumerate of a list or of a tuple -/
def iEnumQ (K : PySem.W.Frag) (ta : TA) : TI := fun σ H R => iEnum K ta σ H R ∨ iEnumT K ta σ H R
theorem pi_enumQ {X : Cx} {e : Expr} {ta : TA} {p pos tpos : Pos} {elts : List Expr} {kk : Nat} (hg : Gl X "enumerate") (hm : X.mg "enumerate" = none) (ha : PA X [e] ta) (hs : starEach [e] X.env = [(false, eval e X.env)] := by rfl) :
    PI X (.Tuple elts kk tpos) (.Call (.Name "enumerate" p) [e] [] pos) (iEnumQ X.K ta) :=
  ⟨fun pins s σ H R I h => h.elim (fun h => (pi_enum hg hm ha hs).run pins s σ H R I h) fun h => (pi_enumT hg hm ha hs).run pins s σ H R I h⟩
/-- a list or a tuple walked -/
def iSeqQ (K : PySem.W.Frag) (ta : TE) : TI := fun σ H R => iList K ta σ H R ∨ iTup K ta σ H R
theorem pi_seqQ {X : Cx} {tg e : Expr} {ta : TE} (ha : PE X e ta) : PI X tg e (iSeqQ X.K ta) := ⟨fun pins s σ H R I h => h.elim (fun h => (pi_list ha).run pins s σ H R I h) fun h => (pi_tup ha).run pins s σ H R I h⟩
/-- True in bs, False in bs -/
theorem je_inB {b : Bool} {bs : List Bool} (ha : JD K M W ta ps (.bool b)) (hb : JD K M W tb ps (.list (bs.map .bool))) : JD K M W (tOp (rIn K false) ta tb) ps (.bool (bs.contains b)) := je_op ha hb fun x y F H fh p q Q k => by
  obtain ⟨a, xs, rfl, hs, hd⟩ := dp_lst q
  have e : ∀ {xs : List V} {bs : List Bool}, DpAll K F xs (bs.map PyData.bool) → xs = bs.map V.bl := by
    intro xs bs
    induction bs generalizing xs with
    | nil => intro h; cases h; rfl
    | cons c r ih =>
      intro h
      cases h with
      | cons h1 h2 => rw [dp_bl h1, ih h2] <;> rfl
  have e := e hd
  subst e
  rw [dp_bl p]
  have fl : ∀ bs : List Bool, (bs.map V.bl).all flatV = true := fun bs => by
    induction bs with
    | nil => rfl
    | cons c r ih =>
      rw [List.map_cons, List.all_cons, ih]
      rfl
  have iv : ∀ bs : List Bool, inV (.bl b) (bs.map V.bl) = bs.contains b := fun bs => by
    induction bs with
    | nil => rfl
    | cons c r ih =>
      unfold inV at ih ⊢
      rw [List.map_cons, List.any_cons, List.contains_cons, ih]
      congr 1
      cases b <;> cases c <;> rfl
  refine ⟨a, _, rfl, .inl (ex_l fh hs), rfl, fl bs, ?_⟩
  rw [iv]
  exact k _ F H (Gr.refl fh) (.bl _)
end
end EB

/-! EB12: several lists of one's own at once, lists of such lists; each told as data at the end. -/
namespace EB
open PySem PySem.Spec PyProof.Rows L2 Evl
/-- the lists of one's own: where each lies, and what is known of each item -/
abbrev Ow := List (Addr × List PV)
structure AccM (Os : Ow) (F1 H1 F H : Hp) : Prop where
  gr : Gr F1 H1 F H
  nd : (Os.map (·.1)).Nodup
  fr : ∀ p ∈ Os, H1 p.1 = none
  off : ∀ p ∈ Os, F p.1 = none
  at_ : ∀ p ∈ Os, ∃ acc, H p.1 = some (.lst acc) ∧ AllP F acc p.2
theorem AccM.start {F H : Hp} (fh : Ex F H) : AccM [] F H F H := ⟨Gr.refl fh, List.nodup_nil, fun p h => by simp at h, fun p h => by simp at h, fun p h => by simp at h⟩
theorem AccM.step {Os : Ow} {F1 H1 F H F2 H2 : Hp} (a : AccM Os F1 H1 F H) (g : Gr F H F2 H2) : AccM Os F1 H1 F2 H2 := ⟨a.gr.trans g, a.nd, a.fr, fun p h => by
    obtain ⟨acc, e, _⟩ := a.at_ p h
    exact g.nw p.1 (by rw [e]; exact fun z => nomatch z) (a.off p h), fun p h => by
    obtain ⟨acc, e, d⟩ := a.at_ p h
    exact ⟨acc, g.hh _ _ e, d.mono g.ff⟩⟩
theorem AccM.new {Os : Ow} {F1 H1 F H : Hp} {D : Addr} {acc : List V} {items : List PV} (a : AccM Os F1 H1 F H) (hD : H D = none) (h : AllP F acc items) : AccM ((D, items) :: Os) F1 H1 F (upd H D (.lst acc)) := by
  have f1 : H1 D = none := fresh_back a.gr.hh hD
  have f2 : F D = none := fresh_back a.gr.fh hD
  have ne : ∀ p ∈ Os, p.1 ≠ D := fun p hp z => by
    obtain ⟨acc, e, _⟩ := a.at_ p hp
    rw [z, hD] at e
    cases e
  refine ⟨gr_mut a.gr f1 f2, List.nodup_cons.mpr ⟨fun z => ?_, a.nd⟩, fun p hp => ?_, fun p hp => ?_, fun p hp => ?_⟩
  · obtain ⟨p, hp, e⟩ := List.mem_map.mp z
    exact ne p hp e
  · rcases List.mem_cons.mp hp with rfl | z
    · exact f1
    · exact a.fr p z
  · rcases List.mem_cons.mp hp with rfl | z
    · exact f2
    · exact a.off p z
  · rcases List.mem_cons.mp hp with rfl | z
    · exact ⟨acc, upd_same, h⟩
    · obtain ⟨c, e, d⟩ := a.at_ p z
      exact ⟨c, by rw [upd_ne (ne p z)]; exact e, d⟩
theorem AccM.set {Os : Ow} {F1 H1 F H : Hp} {i : Nat} {D : Addr} {items items' : List PV} {acc : List V} (a : AccM Os F1 H1 F H) (hi : Os[i]? = some (D, items)) (h : AllP F acc items') : AccM (Os.set i (D, items')) F1 H1 F (upd H D (.lst acc)) := by
  have hl : i < Os.length := (List.getElem?_eq_some_iff.mp hi).1
  have hm : (D, items) ∈ Os := List.mem_of_getElem? hi
  have e1 : (Os.set i (D, items')).map (·.1) = Os.map (·.1) := by
    rw [List.map_set]
    apply List.ext_getElem?
    intro j
    by_cases z : i = j
    · subst z
      rw [List.getElem?_set_self (by rw [List.length_map]; exact hl), List.getElem?_map, hi]
      rfl
    · rw [List.getElem?_set_ne z]
  have cases_ : ∀ p ∈ Os.set i (D, items'), p = (D, items') ∨ (p ∈ Os ∧ p.1 ≠ D) := fun p hp => by
    obtain ⟨j, hj, e⟩ := List.getElem_of_mem hp
    rw [List.length_set] at hj
    by_cases z : i = j
    · subst z
      rw [List.getElem_set_self] at e
      exact .inl e.symm
    · rw [List.getElem_set_ne z] at e
      refine .inr ⟨e ▸ List.getElem_mem hj, fun y => ?_⟩
      have nd := List.pairwise_iff_getElem.mp (List.nodup_iff_pairwise_ne.mp a.nd)
      have ei : Os[i] = (D, items) := by
        have := hi
        rw [List.getElem?_eq_getElem hl] at this
        exact Option.some.inj this
      have q1 : (Os.map (·.1))[i]'(by rw [List.length_map]; exact hl) = D := by rw [List.getElem_map, ei]
      have q2 : (Os.map (·.1))[j]'(by rw [List.length_map]; exact hj) = D := by rw [List.getElem_map, e, y]
      rcases Nat.lt_or_gt_of_ne z with w | w
      · exact nd i j _ _ w (q1.trans q2.symm)
      · exact nd j i _ _ w (q2.trans q1.symm)
  refine ⟨gr_mut a.gr (a.fr _ hm) (a.off _ hm), by rw [e1]; exact a.nd, fun p hp => ?_, fun p hp => ?_, fun p hp => ?_⟩
  · rcases cases_ p hp with rfl | ⟨z, _⟩
    · exact a.fr (D, items) hm
    · exact a.fr p z
  · rcases cases_ p hp with rfl | ⟨z, _⟩
    · exact a.off (D, items) hm
    · exact a.off p z
  · rcases cases_ p hp with rfl | ⟨z, ne⟩
    · exact ⟨acc, upd_same, h⟩
    · obtain ⟨c, e, d⟩ := a.at_ p z
      exact ⟨c, by rw [upd_ne ne]; exact e, d⟩
inductive MR
  | nx (qs : Kn) (Os : Ow)
  | rt (d : PyData)
def MW (K : PySem.W.Frag) (F1 H1 : Hp) (Dn : Ends) (F : Hp) : MR → Prop
  | .nx qs Os => ∀ σ' F' H', AccM Os F1 H1 F' H' → Ex F F' → Sl F' σ' qs → Dn.nx σ' H'
  | .rt d => ∀ v F' H', Gr F1 H1 F' H' → Dp K F' v d → Dn.rt v H'
theorem MW.step {K : PySem.W.Frag} {F1 H1 : Hp} {Dn : Ends} {F F' : Hp} {R : MR} (e : Ex F F') (k : MW K F1 H1 Dn F R) : MW K F1 H1 Dn F' R := by
  cases R with
  | nx qs Os => exact fun σ2 F2 H2 A2 e2 S2 => k σ2 F2 H2 A2 (e.trans e2) S2
  | rt d => exact k
def JM (K : PySem.W.Frag) (F1 H1 : Hp) (ts : TS) (ps : Kn) (Os : Ow) (R : MR) : Prop := ∀ Dn σ F H, AccM Os F1 H1 F H → Sl F σ ps → MW K F1 H1 Dn F R → ts Dn σ H
/-- an expression that may change the lists of one's own -/
def JX (F1 H1 : Hp) (te : TE) (ps : Kn) (Os : Ow) (P : PV) (Os' : Ow) : Prop := ∀ σ F H Q, AccM Os F1 H1 F H → Sl F σ ps → (∀ v F' H', AccM Os' F1 H1 F' H' → Ex F F' → P.p F' v → Q v H') → te σ H Q
section
variable {K : PySem.W.Frag} {M : EC → Addr} {W : WX} {F1 H1 : Hp} {ps qs rs : Kn} {ts tu : TS} {te tx ti ta tb : TE} {t : TT} {Os Os0 Os1 Os2 : Ow} {R : MR} {P P0 : PV} {d : PyData} {D : Addr} {items : List PV} {vs : List Nat}
theorem jx_jv (h : JV K M W te ps P) : JX F1 H1 te ps Os P Os := fun σ F H Q A S k => h.go A.gr.fh S fun v F' H' g p => k v F' H' (A.step g) g.ff p
theorem jx_var {i : Nat} (h : ps[i]? = some (some P)) : JX F1 H1 (tVar i) ps Os P Os := fun σ F H Q A S k => by
  obtain ⟨v, h1, h2⟩ := S.2 i P h
  exact ⟨v, h1, k v F H A (Ex.refl _) h2⟩
/-- an item of a list of one's own -/
theorem jx_ix {i j : Nat} (hx : JX F1 H1 tx ps Os (xv (.ref D)) Os0) (hi : JX F1 H1 ti ps Os0 (xv (.int (j : Nat))) Os1) (h : Os1[i]? = some (D, items)) (hj : items[j]? = some P) : JX F1 H1 (tOp (rIxL K) tx ti) ps Os P Os1 := fun σ F H Q A S k => hx σ F H _ A S fun v F2 H2 A2 e2 p => hi σ F2 H2 _ A2 (S.mono e2) fun u F3 H3 A3 e3 q => by
  obtain ⟨acc, hh, hd⟩ := A3.at_ _ (List.mem_of_getElem? h)
  obtain ⟨w, hw, pw⟩ := hd.get hj
  exact ⟨D, acc, j, w, (show v = V.ref D from p), (show u = V.int j from q), sq_of hh, atI_nat hw, k w F3 H3 A3 (e2.trans e3) pw⟩
theorem jx_int {i : Int} (h : JD K M W te ps (.int i)) : JX F1 H1 te ps Os (xv (.int i)) Os := fun σ F H Q A S k => h.go A.gr.fh S fun v F' H' g p => k v F' H' (A.step g) g.ff (dp_int p)
/-- xs.append(e) -/
theorem jx_app {i i0 : Nat} {items0 : List PV} (hx : JX F1 H1 tx ps Os (xv (.ref D)) Os0) (h0 : Os0[i0]? = some (D, items0)) (ha : JX F1 H1 ta ps Os0 P Os1) (h : Os1[i]? = some (D, items)) (hl : items.length < 90000) : JX F1 H1 (tBM K "list" rAppend tx (tCons ta tNil)) ps Os (dv K .none) (Os1.set i (D, items ++ [P])) := fun σ F H Q A S k => hx σ F H _ A S fun v F2 H2 A2 e2 p => by
  obtain rfl : v = V.ref D := p
  obtain ⟨acc0, hh0, _⟩ := A2.at_ _ (List.mem_of_getElem? h0)
  refine ⟨.inl ⟨rfl, acc0, sq_of hh0⟩, ha σ F2 H2 _ A2 (S.mono e2) fun u F3 H3 A3 e3 q => ?_⟩
  obtain ⟨acc, hh, hd⟩ := A3.at_ _ (List.mem_of_getElem? h)
  exact ⟨D, acc, u, rfl, rfl, hh, sz_lt (by rw [hd.length]; exact Nat.lt_trans hl (by decide)), k .non F3 _ (A3.set h (hd.app (.cons q .nil))) (e2.trans e3) .non⟩
theorem allErase {H : Hp} : ∀ {us : List V} {Ps : List PV} (j : Nat), AllP H us Ps → AllP H (us.eraseIdx j) (Ps.eraseIdx j)
  | _, _, _, .nil => .nil
  | _, _, 0, .cons _ b => b
  | _, _, j + 1, .cons a b => .cons a (allErase j b)
theorem allSet {H : Hp} {v : V} {P : PV} : ∀ {us : List V} {Ps : List PV} (j : Nat), AllP H us Ps → P.p H v → AllP H (us.set j v) (Ps.set j P)
  | _, _, _, .nil, _ => .nil
  | _, _, 0, .cons _ b, p => .cons p b
  | _, _, j + 1, .cons a b, p => .cons a (allSet j b p)
/-- xs.pop(k) -/
theorem jx_pop {i i0 : Nat} {items0 : List PV} {j : Nat} (hx : JX F1 H1 tx ps Os (xv (.ref D)) Os0) (h0 : Os0[i0]? = some (D, items0)) (ha : JX F1 H1 ta ps Os0 (xv (.int (j : Nat))) Os1) (h : Os1[i]? = some (D, items)) (hl : items.length < 90000) (hj : items[j]? = some P) : JX F1 H1 (tBM K "list" rPopAt tx (tCons ta tNil)) ps Os P (Os1.set i (D, items.eraseIdx j)) := fun σ F H Q A S k => hx σ F H _ A S fun v F2 H2 A2 e2 p => by
  obtain rfl : v = V.ref D := p
  obtain ⟨acc0, hh0, _⟩ := A2.at_ _ (List.mem_of_getElem? h0)
  refine ⟨.inl ⟨rfl, acc0, sq_of hh0⟩, ha σ F2 H2 _ A2 (S.mono e2) fun u F3 H3 A3 e3 q => ?_⟩
  obtain rfl : u = V.int (j : Nat) := q
  obtain ⟨acc, hh, hd⟩ := A3.at_ _ (List.mem_of_getElem? h)
  obtain ⟨w, hw, pw⟩ := hd.get hj
  have hjl : j < acc.length := (List.getElem?_eq_some_iff.mp hw).1
  have hal : acc.length = items.length := hd.length
  refine ⟨D, acc, j, j, w, rfl, rfl, hh, by omega, by omega, ?_, hw, k w F3 _ (A3.set h (allErase j hd)) (e2.trans e3) pw⟩
  unfold seqIndex?
  simp
  omega
theorem jm_js (h : JS K M W ts ps (.nx qs)) : JM K F1 H1 ts ps Os (.nx qs Os) := fun Dn σ F H A S k => h Dn σ F H A.gr.fh S fun σ' F' H' g s => k σ' F' H' (A.step g) g.ff s
theorem jm_weak (h : JM K F1 H1 ts ps Os (.nx qs Os1)) (w : Weak qs rs) : JM K F1 H1 ts ps Os (.nx rs Os1) := fun Dn σ F H A S k => h Dn σ F H A S fun σ' F' H' A' e s => k σ' F' H' A' e (s.weak w)
theorem jm_is (h : JM K F1 H1 ts ps Os (.nx qs Os1)) (e : Os1 = Os2) : JM K F1 H1 ts ps Os (.nx qs Os2) := e ▸ h
theorem jm_seq (h1 : JM K F1 H1 ts ps Os (.nx qs Os1)) (h2 : JM K F1 H1 tu qs Os1 R) : JM K F1 H1 (tSeq ts tu) ps Os R := fun Dn σ F H A S k => h1 { Dn with nx := tu Dn } σ F H A S fun σ' F' H' A' e S' => h2 Dn σ' F' H' A' S' (MW.step e k)
theorem jm_if {b : Bool} (h : JT K M W t ps b) (h1 : b = true → JM K F1 H1 ts ps Os R) (h2 : b = false → JM K F1 H1 tu ps Os R) : JM K F1 H1 (tIfS t ts tu) ps Os R := fun Dn σ F H A S k => h σ F H _ A.gr.fh S fun F' H' g => by
  have k' := MW.step g.ff k
  cases b with
  | true => exact h1 rfl Dn σ F' H' (A.step g) (S.mono g.ff) k'
  | false => exact h2 rfl Dn σ F' H' (A.step g) (S.mono g.ff) k'
theorem jm_drop (h : JX F1 H1 te ps Os P Os1) : JM K F1 H1 (tDrop te) ps Os (.nx ps Os1) := fun Dn σ F H A S k => h σ F H _ A S fun v F' H' A' e p => k σ F' H' A' e (S.mono e)
theorem jm_asg {i : Nat} (h : JX F1 H1 te ps Os P Os1) : JM K F1 H1 (tAsg te (gName i)) ps Os (.nx (ps.set i (some P)) Os1) := fun Dn σ F H A S k => h σ F H _ A S fun v F' H' A' e p => k _ F' H' A' e ((S.mono e).set i p)
/-- xs[k] = e -/
theorem jm_set {i j : Nat} (h : JX F1 H1 te ps Os P Os0) (hx : JX F1 H1 tx ps Os0 (xv (.ref D)) Os1) (hi : JX F1 H1 ti ps Os1 (xv (.int (j : Nat))) Os2) (ho : Os2[i]? = some (D, items)) (hj : j < items.length) : JM K F1 H1 (tAsg te (gSub tx ti rSetL)) ps Os (.nx ps (Os2.set i (D, items.set j P))) := fun Dn σ F H A S k => h σ F H _ A S fun v F2 H2 A2 e2 p => hx σ F2 H2 _ A2 (S.mono e2) fun x F3 H3 A3 e3 px => by
  obtain rfl : x = V.ref D := px
  refine hi σ F3 H3 _ A3 ((S.mono e2).mono e3) fun u F4 H4 A4 e4 q => ?_
  obtain rfl : u = V.int (j : Nat) := q
  obtain ⟨acc, hh, hd⟩ := A4.at_ _ (List.mem_of_getElem? ho)
  exact ⟨D, acc, (j : Nat), j, rfl, rfl, hh, ixN_nat (by rw [hd.length]; exact hj), k σ F4 _ (A4.set ho (allSet j hd (PV.mn _ (e3.trans e4) p))) ((e2.trans e3).trans e4) (((S.mono e2).mono e3).mono e4)⟩
/-- xs = [e, ..] -/
theorem jm_lst {i : Nat} {tr : TA} {Ps : List PV} (h : JA K M W tr ps Ps) (hl : Ps.length ≤ 100000) (hu : ∀ D, JM K F1 H1 tu (ps.set i (some (xv (.ref D)))) ((D, Ps) :: Os) R) : JM K F1 H1 (tSeq (tAsg (tLst tr) (gName i)) tu) ps Os R := fun Dn σ F H A S k => h σ F H _ A.gr.fh S fun vs F2 H2 g a => ⟨sz_of (by rw [a.length]; exact hl), fun D hD => hu D Dn _ F2 _ ((A.step g).new hD a) ((S.mono g.ff).set i rfl) (MW.step g.ff k)⟩
theorem jm_for {wi : TI} {g : TG} {tb : TS} (xs : List PyData) (f : Nat → Kn) (l : Nat → Ow) (hi : JI K M W wi ps xs) (h0 : f 0 = ps) (hl0 : l 0 = Os)
    (hs : ∀ (j : Nat) (d : PyData), xs[j]? = some d → ∃ qs, JG vs g (f j) (dv K d) qs ∧ JM K F1 H1 tb qs (l j) (.nx (f (j + 1)) (l (j + 1)))) : JM K F1 H1 (tFor wi g tb) ps Os (.nx (f xs.length) (l xs.length)) := fun Dn σ F H A S k => hi σ F H _ A.gr.fh S fun J F2 H2 e1 it => by
  refine ⟨fun i n σ' H' => n = xs.length - i ∧ i ≤ xs.length ∧ ∃ F', AccM (l i) F1 H1 F' H' ∧ Ex F2 F' ∧ Sl F' σ' (f i), ⟨xs.length, by omega, Nat.zero_le _, F2, by rw [hl0]; exact A.step e1, Ex.refl _, by rw [h0]; exact S.mono e1.ff⟩, ?_⟩
  rintro i n σ' H' ⟨rfl, him, F3, A3, e3, S3⟩
  by_cases hlt : i < xs.length
  · refine .inr ⟨it.go i H' (e3.trans A3.gr.fh) hlt, fun σ4 H4 => ∃ F4, AccM (l (i + 1)) F1 H1 F4 H4 ∧ Ex F2 F4 ∧ Sl F4 σ4 (f (i + 1)), fun σ4 H4 q => ⟨xs.length - (i + 1), by omega, rfl, hlt, q⟩, fun x H4 y => ?_⟩
    obtain ⟨F4, e4, dx⟩ := it.yld i _ F3 H' x H4 e3 A3.gr.fh (List.getElem?_eq_getElem hlt) y
    obtain ⟨qs, hg, hb⟩ := hs i _ (List.getElem?_eq_getElem hlt)
    have A4 := A3.step e4
    refine hg x σ' F4 H4 _ e4.fh (S3.mono e4.ff) dx fun σ5 F5 H5 e5 S5 _ => ?_
    exact hb _ σ5 F5 H5 (A4.step e5) S5 fun σ6 F6 H6 A6 e6 S6 => ⟨F6, A6, ((e3.trans e4.ff).trans e5.ff).trans e6, S6⟩
  · have hem : i = xs.length := by omega
    subst hem
    exact .inl ⟨it.stop _ H' (e3.trans A3.gr.fh) (Nat.le_refl _), k σ' F3 H' A3 (e1.ff.trans e3) S3⟩
/-- return of a list of one's own -/
theorem jm_ret {i j : Nat} {ds : List PyData} (hi : ps[i]? = some (some (xv (.ref D)))) (h : Os[j]? = some (D, ds.map (dv K))) : JM K F1 H1 (tRet (tVar i)) ps Os (.rt (.list ds)) := fun Dn σ F H A S k => by
  have hm := List.mem_of_getElem? h
  obtain ⟨acc, hh, hd⟩ := A.at_ _ hm
  exact ⟨.ref D, sl_at S hi, k _ _ H (gr_in A.gr (A.fr _ hm) (A.off _ hm) hh) (.lst (sq_of upd_same) (dpAll_mono (Ex.new (A.off _ hm)) hd.dv))⟩
theorem jm_rt {d : PyData} (h : JD K M W te ps d) : JM K F1 H1 (tRet te) ps Os (.rt d) := fun Dn σ F H A S k => h.go A.gr.fh S fun v F' H' g p => k v F' H' (A.gr.trans g) p
/-- from here on lists of one's own -/
theorem js_own {d : PyData} (h : ∀ F1 H1, JM K F1 H1 ts ps [] (.rt d)) : JS K M W ts ps (.rt (dv K d)) := fun Dn σ F H fh S k => h F H Dn σ F H (AccM.start fh) S fun v F' H' g p => k v F' H' g p
/-- .. and the other way: the lists that are told no more change (the rest stays one's own) -/
theorem jm_tell {i j : Nat} {ds : List PyData} (hi : ps[i]? = some (some (xv (.ref D)))) (h : Os = (D, ds.map (dv K)) :: Os1) (hu : JM K F1 H1 tu (ps.set i (some (lv K ds))) Os1 R) : JM K F1 H1 tu ps Os R := fun Dn σ F H A S k => by
  subst h
  have hm : (D, ds.map (dv K)) ∈ (D, ds.map (dv K)) :: Os1 := List.mem_cons_self
  obtain ⟨acc, hh, hd⟩ := A.at_ _ hm
  have off := A.off _ hm
  have fo : Ex F (upd F D (.lst acc)) := Ex.new off
  have nd := List.nodup_cons.mp A.nd
  refine hu Dn σ (upd F D (.lst acc)) H ⟨gr_in A.gr (A.fr _ hm) off hh, nd.2, fun p hp => A.fr p (List.mem_cons_of_mem _ hp), fun p hp => ?_, fun p hp => ?_⟩ ?_ (MW.step fo k)
  · have ne : p.1 ≠ D := fun z => nd.1 (List.mem_map.mpr ⟨p, hp, z⟩)
    show upd F D (.lst acc) p.1 = none
    rw [upd_ne ne]
    exact A.off p (List.mem_cons_of_mem _ hp)
  · obtain ⟨c, e, q⟩ := A.at_ p (List.mem_cons_of_mem _ hp)
    exact ⟨c, e, q.mono fo⟩
  · refine ⟨by rw [List.length_set]; exact S.1, fun b P hb => ?_⟩
    by_cases z : b = i
    · subst z
      have hl : b < ps.length := (List.getElem?_eq_some_iff.mp hi).1
      rw [List.getElem?_set_self hl] at hb
      cases hb
      exact ⟨_, sl_at S hi, D, acc, rfl, upd_same, dpAll_mono fo hd.dv⟩
    · rw [List.getElem?_set_ne (fun y => z y.symm)] at hb
      exact (S.mono fo).2 b P hb
theorem jm_done (h : JS K M W tu ps (.rt (dv K d))) : JM K F1 H1 tu ps Os (.rt d) := fun Dn σ F H A S k => h Dn σ F H A.gr.fh S fun v F' H' g p => k v F' H' (A.gr.trans g) p
end
end EB

/-! EB13: comb, shifts and masks, lists unpacked, not in, chains of ==. -/
namespace EB
open PySem PySem.Spec PyProof.Rows L2 Evl PySem.W
section
variable {X : Cx}
/-- f(e, ..), f a built-in function that a module's name holds -/
theorem pe_callG {x : Str} {p pos : Pos} {e : Expr} {es : List Expr} {id : String} {r : List V → Hp → VK → Prop} {t : TA} (hc : CallR X (.builtin id) r) (hg : Gl X x) (hm : X.mg x = some (.builtin id)) (ha : PA X (e :: es) t) (hdb : (x == ("__debug__" : Str)) = false := by decide)
    (he : starEach (e :: es) X.env = (false, eval e X.env) :: starEach es X.env := by rfl) (hpl : (backTo pos (starEach es X.env)).any (·.1) = false := by rfl) : PE X (.Call (.Name x p) (e :: es) [] pos) (tCB r t) := by
  refine ⟨fun pins s σ H Q I h => ?_⟩
  refine wpAny_Call_Name_kw (ld_glob I hg hm ?_ hdb)
  exact PyProof.Rows.callWith_builtin1 (thn (ha.run pos pins s σ H _ I h) fun us s1 ⟨vs, H1, I1, r1, q1⟩ => hc pins s1 σ H1 vs us Q I1 r1 q1) he hpl
def rComb : List V → Hp → VK → Prop := fun xs H Q => ∃ a b : Int, xs = [.int a, .int b] ∧ 0 ≤ a ∧ 0 ≤ b ∧ a < 2 ^ 64 ∧ (b ≤ 9000 ∨ a ≤ 18000) ∧ Q (.int (mcComb a b)) H
theorem cr_comb : CallR X (.builtin "math.comb") rComb := by
  intro pins s σ H xs us Q I r h
  obtain ⟨a, b, rfl, h0, h1, h2, h3, q⟩ := h
  cases r with
  | cons r1 r =>
    cases r with
    | cons r2 r =>
      cases r
      obtain ⟨t, rfl⟩ := r1
      obtain ⟨u, rfl⟩ := r2
      exact mc_comb_v h0 h1 h2 h3 rfl ⟨.int (mcComb a b), H, I.tok _, ⟨_, rfl⟩, q⟩
end
section
variable {K : PySem.W.Frag} {M : EC → Addr} {W : WX} {ps qs : Kn} {te ta tb tc : TE} {t : TT} {vs : List Nat}
theorem je_comb {a b : Int} (ha : JD K M W ta ps (.int a)) (hb : JD K M W tb ps (.int b)) (h0 : 0 ≤ a) (h1 : 0 ≤ b) (h2 : a < 2 ^ 64) (h3 : b ≤ 9000 ∨ a ≤ 18000) : JD K M W (tCB rComb (tCons ta (tCons tb tNil))) ps (.int (mcComb a b)) := je_cb (ja_cons ha (ja_cons hb ja_nil)) fun vs F H fh c Q k => by
  obtain ⟨v, u, rfl, p, q⟩ := allP2 c
  rw [dp_int p, dp_int q]
  exact ⟨a, b, rfl, h0, h1, h2, h3, k _ F H (Gr.refl fh) (.int _)⟩
theorem je_shl {i j : Int} (ha : JD K M W ta ps (.int i)) (hb : JD K M W tb ps (.int j)) (hc : CPow i j) : JD K M W (tOp (rI CPow fun i j => .int (i * 2 ^ j.toNat)) ta tb) ps (.int (i * 2 ^ j.toNat)) := je_iiC ha hb hc fun _ => .int _
theorem je_shr {i j : Int} (ha : JD K M W ta ps (.int i)) (hb : JD K M W tb ps (.int j)) (hc : 0 ≤ j) : JD K M W (tOp (rI (fun _ j => 0 ≤ j) fun i j => .int (i / 2 ^ j.toNat)) ta tb) ps (.int (i / 2 ^ j.toNat)) := je_iiC (C := fun _ j => 0 ≤ j) ha hb hc fun _ => .int _
theorem je_band {i j : Int} (ha : JD K M W ta ps (.int i)) (hb : JD K M W tb ps (.int j)) : JD K M W (tOp (rI0 fun i j => .int (Builtin.bitAnd i j)) ta tb) ps (.int (Builtin.bitAnd i j)) := je_ii0 ha hb fun _ => .int _
theorem jg_unl {gs : TGs} {n : Nat} {ds : List PyData} (h : JGs vs gs ps (ds.map (dv K)) qs) (hn : ds.length = n := by rfl) : JG vs (gUnl K n gs) ps (dv K (.list ds)) qs := fun v σ F H Q fh S p k => by
  obtain ⟨a, xs, rfl, hs, hd⟩ := dp_lst p
  exact ⟨a, xs, rfl, ex_l fh hs, by rw [dpLength hd, hn], h xs σ F H Q fh S (AllP.of_dv hd) k⟩
theorem je_notInT {i : Int} {ns : List Int} (ha : JD K M W ta ps (.int i)) (hb : JD K M W tb ps (.tuple (ns.map .int))) : JD K M W (tOp (rIn K true) ta tb) ps (.bool (!ns.contains i)) := je_op ha hb fun x y F H fh p q Q k => by
  obtain ⟨a, xs, rfl, hs, hd⟩ := dp_tup q
  have e := dpAll_ints_eq hd
  subst e
  rw [dp_int p]
  refine ⟨a, _, rfl, .inr (ex_t fh hs), rfl, flat_ints ns, ?_⟩
  rw [inV_ints]
  exact k _ F H (Gr.refl fh) (.bl _)
theorem je_notInL {i : Int} {ns : List Int} (ha : JD K M W ta ps (.int i)) (hb : JD K M W tb ps (.list (ns.map .int))) : JD K M W (tOp (rIn K true) ta tb) ps (.bool (!ns.contains i)) := je_op ha hb fun x y F H fh p q Q k => by
  obtain ⟨a, xs, rfl, hs, hd⟩ := dp_lst q
  have e := dpAll_ints_eq hd
  subst e
  rw [dp_int p]
  refine ⟨a, _, rfl, .inl (ex_l fh hs), rfl, flat_ints ns, ?_⟩
  rw [inV_ints]
  exact k _ F H (Gr.refl fh) (.bl _)
theorem rEq_bl {a b : Bool} {x y : V} {F H : Hp} (p : Dp K F x (.bool a)) (q : Dp K F y (.bool b)) {Q : VK} (h : Q (.bl (a == b)) H) : rEq x y H Q := by
  rw [dp_bl p, dp_bl q]
  refine ⟨rfl, ?_⟩
  have e : decide (V.bl a = V.bl b) = (a == b) := by
    cases a <;> cases b <;> simp
  rw [e]
  exact h
theorem je_eqB {a b : Bool} (ha : JD K M W ta ps (.bool a)) (hb : JD K M W tb ps (.bool b)) : JD K M W (tOp rEq ta tb) ps (.bool (a == b)) := je_op ha hb fun x y F H fh p q Q k => rEq_bl p q (k _ F H (Gr.refl fh) (.bl _))
/-- a == b == c, of bools -/
theorem je_chainB {a b c : Bool} (ha : JD K M W ta ps (.bool a)) (hb : JD K M W tb ps (.bool b)) (hc : JD K M W tc ps (.bool c)) : JD K M W (tChain rEq rEq ta tb tc) ps (.bool ((a == b) && (b == c))) :=
  je_chain ha hb (fun x y F H fh p q Q k => rEq_bl p q k) (fun _ => hc) (fun x y F H fh p q Q k => rEq_bl p q k)
end
end EB

/-! EB14: lists whose items are known one by one, lists of new lists, sorted pairs. -/
namespace EB
open PySem PySem.Spec PyProof.Rows L2 Evl
def lp (Ps : List PV) : PV := ⟨fun H v => ∃ a xs, v = .ref a ∧ H a = some (.lst xs) ∧ AllP H xs Ps, fun e h => by
  obtain ⟨a, xs, h1, h2, h3⟩ := h
  exact ⟨a, xs, h1, e _ _ h2, h3.mono e⟩⟩
/-- a pair of ints that was made at run time -/
def tp2 (p : Int × Int) : PV := ⟨fun H v => ∃ t, v = .ref t ∧ H t = some (.tup [.int p.1, .int p.2]), fun e h => by
  obtain ⟨t, h1, h2⟩ := h
  exact ⟨t, h1, e _ _ h2⟩⟩
section
variable {K : PySem.W.Frag} {M : EC → Addr} {W : WX} {F1 H1 : Hp} {ps qs : Kn} {ts tu : TS} {te ta tb : TE} {t : TT} {tr : TA} {Os Os' : Ow} {R : MR} {D : Addr} {vs : List Nat}
theorem tp2_dv {p : Int × Int} {H : Hp} {v : V} (h : (tp2 p).p H v) : Dp K H v (pD p) := by
  obtain ⟨t, rfl, e⟩ := h
  exact .tup (st_of e) (.cons (.int _) (.cons (.int _) .nil))
theorem allP_dp {α : Type} {f : α → PV} {d : α → PyData} (hf : ∀ a (H : Hp) v, (f a).p H v → Dp K H v (d a)) {H : Hp} : ∀ {xs : List V} {l : List α}, AllP H xs (l.map f) → DpAll K H xs (l.map d)
  | _, [], h => by cases h; exact .nil
  | _, a :: r, h => by
    cases h with
    | cons h1 h2 => exact .cons (hf a H _ h1) (allP_dp hf h2)
theorem lp_dv {α : Type} {f : α → PV} {d : α → PyData} (hf : ∀ a (H : Hp) v, (f a).p H v → Dp K H v (d a)) {l : List α} {H : Hp} {v : V} (h : (lp (l.map f)).p H v) : Dp K H v (.list (l.map d)) := by
  obtain ⟨a, xs, rfl, e, al⟩ := h
  exact .lst (sq_of e) (allP_dp hf al)
theorem je_lpd {α : Type} {f : α → PV} {d : α → PyData} (hf : ∀ a (H : Hp) v, (f a).p H v → Dp K H v (d a)) {l : List α} (h : JV K M W te ps (lp (l.map f))) : JD K M W te ps (.list (l.map d)) := je_weak h fun H v p => lp_dv hf p
theorem je_tup2 {i j : Int} (h1 : JD K M W ta ps (.int i)) (h2 : JD K M W tb ps (.int j)) : JV K M W (tTup (tCons ta (tCons tb tNil))) ps (tp2 (i, j)) := fun σ F H Q fh S k =>
  ja_cons h1 (ja_cons h2 ja_nil) σ F H _ fh S fun vs F1 H1 e1 a => by
    obtain ⟨v, u, rfl, p, q⟩ := allP2 a
    rw [dp_int p, dp_int q]
    exact ⟨sz_of (show 2 ≤ 100000 by decide), fun p hp => k _ _ _ (e1.trans (Gr.new e1.fh hp)) ⟨p, rfl, upd_same⟩⟩
/-! ### walks over such lists -/
structure ItP (J : It) (F : Hp) (Ps : List PV) : Prop where
  stop : ∀ i H', Ex F H' → Ps.length ≤ i → J.stop i H'
  go : ∀ i H', Ex F H' → i < Ps.length → J.go i H'
  yld : ∀ i P F' H' x H2, Ex F F' → Ex F' H' → Ps[i]? = some P → J.yld i H' x H2 → ∃ F2, Gr F' H' F2 H2 ∧ P.p F2 x
def JIP (K : PySem.W.Frag) (M : EC → Addr) (W : WX) (wi : TI) (ps : Kn) (Ps : List PV) : Prop := ∀ σ F H R, Ex F H → Sl F σ ps → (∀ J F1 H1, Gr F H F1 H1 → ItP J F1 Ps → R J H1) → wi σ H R
theorem jip_list {Ps : List PV} (h : JV K M W te ps (lp Ps)) : JIP K M W (iList K te) ps Ps := fun σ F H R fh S k => h.go fh S fun v F1 H1 e p => by
  obtain ⟨a, xs, rfl, hx, al⟩ := p
  refine ⟨a, rfl, ⟨xs, sq_of (e.fh _ _ hx)⟩, k _ F1 H1 e ⟨fun i H' e2 h => ⟨xs, sq_of (e2 _ _ hx), by rw [al.length]; exact h⟩, fun i H' e2 h => ?_, fun i P F' H' x H2 e2 fh2 hi y => ?_⟩⟩
  · have hl : i < xs.length := by rw [al.length]; exact h
    exact ⟨xs, xs[i], sq_of (e2 _ _ hx), List.getElem?_eq_getElem hl⟩
  · obtain ⟨rfl, y⟩ := y
    obtain ⟨v, hv, pv⟩ := al.get hi
    have := y xs (sq_of ((e2.trans fh2) _ _ hx))
    rw [hv] at this
    cases this
    exact ⟨F', Gr.refl fh2, P.mn e2 pv⟩
/-- [e for x in xs], items known one by one -/
theorem je_lcP {wi : TI} {g : TG} {Ps : List PV} (e : Nat → PyData) {W' : WX} (hi : JIP K M W wi ps Ps) (hlen : Ps.length ≤ 90000)
    (hs : ∀ i P, Ps[i]? = some P → ∃ qs, JG vs g (wipeK ps vs) P qs ∧ JT K M W' t qs true ∧ JD K M W' te qs (e i)) : JD K M W (tLc wi g t te vs) ps (.list ((List.range Ps.length).map e)) := fun σ F H Q fh S k => hi σ F H _ fh S fun J F1 H1 e1 it D hD => by
  refine ⟨fun i n H' => n = Ps.length - i ∧ i ≤ Ps.length ∧ ∃ F', Acc K D F1 H1 F' H' ((List.range i).map e), ⟨Ps.length, by omega, Nat.zero_le _, F1, Acc.start e1.fh hD⟩, ?_⟩
  rintro i n H' ⟨rfl, him, F2, A⟩
  by_cases hlt : i < Ps.length
  · have hx : Ps[i]? = some Ps[i] := List.getElem?_eq_getElem hlt
    refine .inr ⟨it.go i H' (A.gr.ff.trans A.gr.fh) hlt, fun H3 => ∃ F3, Acc K D F1 H1 F3 H3 ((List.range (i + 1)).map e), fun H3 q => ⟨Ps.length - (i + 1), by omega, rfl, hlt, q⟩, fun x H3 y => ?_⟩
    obtain ⟨F3, e3, dx⟩ := it.yld i _ F2 H' x H3 A.gr.ff A.gr.fh hx y
    have A3 := A.step e3
    obtain ⟨qs, hg, ht, he⟩ := hs i _ hx
    refine hg x (wipe σ vs) F3 H3 _ e3.fh ((S.mono (e1.ff.trans A3.gr.ff)).wipe vs) dx fun σ4 F4 H4 e4 S4 u4 => ⟨wipe_upto (upto_wipe.trans u4), ht σ4 F4 H4 _ e4.fh S4 fun F5 H5 e5 => ?_⟩
    have A5 := (A3.step e4).step e5
    show te σ4 H5 _
    refine he.go e5.fh (S4.mono e5.ff) fun v F6 H6 e6 p => ?_
    have A6 := A5.step e6
    obtain ⟨acc, h6, _⟩ := A6.at_
    refine ⟨acc, h6, sz_lt (by rw [A6.len h6, List.length_map, List.length_range]; omega), F6, ?_⟩
    rw [List.range_succ, List.map_append]
    exact A6.app hD h6 p
  · have hem : i = Ps.length := by omega
    subst hem
    obtain ⟨F3, g3, d3, _⟩ := A.done hD
    exact .inl ⟨it.stop _ H' (A.gr.ff.trans A.gr.fh) (Nat.le_refl _), k _ F3 H' (e1.trans g3) d3⟩
/-! ### sorted pairs -/
def lexLt (p q : Int × Int) : Prop := p.1 < q.1 ∨ (p.1 = q.1 ∧ p.2 < q.2)
theorem sort_one : ∀ {xs ys : List (Int × Int)}, xs.Perm ys → xs.Pairwise (fun x y => ¬ lexLt y x) → ys.Pairwise lexLt → xs = ys
  | [], ys, h, _, _ => by rw [List.nil_perm.mp h]
  | x :: xs, [], h, _, _ => absurd h.length_eq (by simp)
  | x :: xs, y :: ys, h, h1, h2 => by
    obtain ⟨a1, a2⟩ := List.pairwise_cons.mp h1
    obtain ⟨b1, b2⟩ := List.pairwise_cons.mp h2
    have e : x = y := by
      have m1 : x ∈ y :: ys := h.mem_iff.mp List.mem_cons_self
      have m2 : y ∈ x :: xs := h.mem_iff.mpr List.mem_cons_self
      rcases List.mem_cons.mp m1 with z | z
      · exact z
      · rcases List.mem_cons.mp m2 with w | w
        · exact w.symm
        · exact absurd (b1 x z) (a1 y w)
    subst e
    rw [sort_one (List.Perm.cons_inv h) a2 b2]
def kP (H : Hp) (v : V) : Int × Int := match v with
  | .ref t => match H t with
    | some (.tup [.int i, .int j]) => (i, j)
    | _ => (0, 0)
  | _ => (0, 0)
theorem kP_tp2 {F H : Hp} (fh : Ex F H) {p : Int × Int} {v : V} (h : (tp2 p).p F v) : (∃ t, v = .ref t ∧ H t = some (.tup [.int (kP H v).1, .int (kP H v).2])) ∧ kP H v = p := by
  obtain ⟨t, rfl, e⟩ := h
  have e2 := fh _ _ e
  have : kP H (.ref t) = p := by
    unfold kP
    dsimp only
    rw [e2]
  exact ⟨⟨t, rfl, by rw [this]; exact e2⟩, this⟩
theorem kP_all {F H : Hp} (fh : Ex F H) : ∀ {xs : List V} {l : List (Int × Int)}, AllP F xs (l.map tp2) → xs.map (kP H) = l ∧ ∀ x ∈ xs, (∃ t, x = .ref t ∧ H t = some (.tup [.int (kP H x).1, .int (kP H x).2])) ∧ (tp2 (kP H x)).p F x
  | _, [], h => by cases h; exact ⟨rfl, fun x h => by cases h⟩
  | _, a :: r, h => by
    cases h with
    | cons h1 h2 =>
      obtain ⟨i1, i2⟩ := kP_all fh h2
      obtain ⟨k1, k2⟩ := kP_tp2 fh h1
      refine ⟨by rw [List.map_cons, i1, k2], fun x hx => ?_⟩
      rcases List.mem_cons.mp hx with rfl | z
      · exact ⟨k1, by rw [k2]; exact h1⟩
      · exact i2 x z
theorem dpAll_kP {F H : Hp} : ∀ {xs : List V}, (∀ x ∈ xs, (tp2 (kP H x)).p F x) → DpAll K F xs ((xs.map (kP H)).map pD)
  | [], _ => .nil
  | x :: r, h => .cons (tp2_dv (h x List.mem_cons_self)) (dpAll_kP fun y hy => h y (List.mem_cons_of_mem _ hy))
theorem je_sortP {xs ys : List (Int × Int)} (h : JV K M W te ps (lp (xs.map tp2))) (hp : xs.Perm ys) (hs : ys.Pairwise lexLt) : JD K M W (tCB (rSortedPO K) (tCons te tNil)) ps (.list (ys.map pD)) := je_cb (ja_cons h ja_nil) fun vs F H fh b Q k => by
  obtain ⟨v, rfl, p⟩ := allP1 b
  obtain ⟨a, acc, rfl, ha, al⟩ := p
  obtain ⟨e1, e2⟩ := kP_all fh al
  refine ⟨a, acc, kP H, rfl, sq_of (fh _ _ ha), fun x hx => (e2 x hx).1, fun zs q h1 h2 hq => ?_⟩
  have key : zs.map (kP H) = ys := by
    refine sort_one ((h2.perm.map (kP H)).trans (by rw [e1]; exact hp)) ?_ hs
    rw [List.pairwise_map]
    refine List.Pairwise.imp (fun {x y} (z : SrtO.lexB (kP H y) (kP H x) = false) w => ?_) h1
    have := SrtO.lexB_no.mp z
    unfold lexLt at w
    omega
  refine k _ _ _ (Gr.new fh hq) (.lst (sq_of upd_same) ?_)
  rw [← key]
  exact dpAll_mono (Gr.new (o := .lst zs) fh hq).ff (dpAll_kP fun x hx => (e2 x (h2.perm.mem_iff.mp hx)).2)
/-! ### a list of new lists -/
theorem AccM.perm {F H : Hp} (h : Os.Perm Os') (a : AccM Os F1 H1 F H) : AccM Os' F1 H1 F H := ⟨a.gr, (h.map _).nodup_iff.mp a.nd, fun p hp => a.fr p (h.mem_iff.mpr hp), fun p hp => a.off p (h.mem_iff.mpr hp), fun p hp => a.at_ p (h.mem_iff.mpr hp)⟩
abbrev emp (Ds : List Addr) : Ow := Ds.map fun a => (a, ([] : List PV))
abbrev refs (Ds : List Addr) : List PV := Ds.map fun a => xv (.ref a)
theorem jm_lcNew {wi : TI} {g : TG} {i : Nat} (xs : List PyData) (hi : JI K M W wi ps xs) (hlen : xs.length ≤ 90000) (hg : ∀ d ∈ xs, ∃ qs, JG vs g (wipeK ps vs) (dv K d) qs)
    (hu : ∀ (D : Addr) (Ds : List Addr), Ds.length = xs.length → JM K F1 H1 tu (ps.set i (some (xv (.ref D)))) ((D, refs Ds) :: (emp Ds ++ Os)) R) : JM K F1 H1 (tSeq (tAsg (tLc wi g tYes (tLst tNil) vs) (gName i)) tu) ps Os R := fun Dn σ F H A S k => hi σ F H _ A.gr.fh S fun J F2 H2 e1 it D hD => by
  refine ⟨fun i n H' => n = xs.length - i ∧ i ≤ xs.length ∧ ∃ (Ds : List Addr) (F' : Hp), Ds.length = i ∧ Ex F2 F' ∧ AccM ((D, refs Ds) :: (emp Ds ++ Os)) F1 H1 F' H', ⟨xs.length, by omega, Nat.zero_le _, [], F2, rfl, Ex.refl _, (A.step e1).new hD .nil⟩, ?_⟩
  rintro i n H' ⟨rfl, him, Ds, F3, hDs, e3, A3⟩
  by_cases hlt : i < xs.length
  · have hx : xs[i]? = some xs[i] := List.getElem?_eq_getElem hlt
    refine .inr ⟨it.go i H' (e3.trans A3.gr.fh) hlt, fun H3 => ∃ (Ds : List Addr) (F' : Hp), Ds.length = i + 1 ∧ Ex F2 F' ∧ AccM ((D, refs Ds) :: (emp Ds ++ Os)) F1 H1 F' H3, fun H3 q => ⟨xs.length - (i + 1), by omega, rfl, hlt, q⟩, fun x H3 y => ?_⟩
    obtain ⟨F4, e4, dx⟩ := it.yld i _ F3 H' x H3 e3 A3.gr.fh hx y
    have A4 := A3.step e4
    obtain ⟨qs, hgx⟩ := hg _ (List.getElem_mem hlt)
    refine hgx x (wipe σ vs) F4 H3 _ e4.fh ((S.mono ((e1.ff.trans e3).trans e4.ff)).wipe vs) dx fun σ5 F5' H5' e5' S5 u5 => ⟨wipe_upto (upto_wipe.trans u5), (jt_yes (K := K) (M := M) (W := W)) σ5 F5' H5' _ e5'.fh S5 fun F5 H5 e6 => ?_⟩
    have e5 := e5'.trans e6
    have A5 := A4.step e5
    rw [if_pos rfl]
    refine ⟨sz_of (by decide), fun p hp => ?_⟩
    have A6 := A5.new (items := []) (acc := []) hp .nil
    have A7 : AccM ((D, refs Ds) :: (emp (Ds ++ [p]) ++ Os)) F1 H1 F5 (upd H5 p (.lst [])) := by
      refine A6.perm ?_
      refine (List.Perm.swap _ _ _).trans (List.Perm.cons _ ?_)
      show ((p, []) :: (emp Ds ++ Os)).Perm (emp (Ds ++ [p]) ++ Os)
      unfold emp
      rw [List.map_append, List.append_assoc]
      exact List.perm_middle.symm
    obtain ⟨acc, h7, a7⟩ := A7.at_ (D, refs Ds) List.mem_cons_self
    have lacc : acc.length = Ds.length := by
      have := a7.length
      unfold refs at this
      rwa [List.length_map] at this
    refine ⟨acc, h7, sz_lt (by omega), Ds ++ [p], F5, by rw [List.length_append, hDs]; rfl, (e3.trans e4.ff).trans e5.ff, ?_⟩
    have A8 := A7.set (i := 0) (D := D) (items := refs Ds) (items' := refs (Ds ++ [p])) (acc := acc ++ [.ref p]) rfl (by
      unfold refs
      rw [List.map_append]
      exact a7.app (.cons rfl .nil))
    exact A8
  · have hem : i = xs.length := by omega
    subst hem
    exact .inl ⟨it.stop _ H' (e3.trans A3.gr.fh) (Nat.le_refl _), hu D Ds hDs Dn _ F3 H' A3 ((S.mono (e1.ff.trans e3)).set _ rfl) (MW.step (e1.ff.trans e3) k)⟩
/-- all of them are told from here on -/
theorem jm_tellAll {d : PyData} (hq : ∀ F' σ, (∀ p ∈ Os, ∃ acc, F' p.1 = some (.lst acc) ∧ AllP F' acc p.2) → Sl F' σ ps → Sl F' σ qs) (hl : ps.length = qs.length) (hu : JS K M W tu qs (.rt (dv K d))) : JM K F1 H1 tu ps Os (.rt d) := fun Dn σ F H A S k => by
  classical
  let F' : Hp := fun a => if a ∈ Os.map (·.1) then H a else F a
  have ff : Ex F F' := fun a o e => by
    by_cases z : a ∈ Os.map (·.1)
    · obtain ⟨p, hp, rfl⟩ := List.mem_map.mp z
      rw [A.off p hp] at e
      cases e
    · show (if a ∈ Os.map (·.1) then H a else F a) = some o
      rw [if_neg z]
      exact e
  have fh : Ex F' H := fun a o e => by
    by_cases z : a ∈ Os.map (·.1)
    · have e2 : (if a ∈ Os.map (·.1) then H a else F a) = some o := e
      rw [if_pos z] at e2
      exact e2
    · have e2 : (if a ∈ Os.map (·.1) then H a else F a) = some o := e
      rw [if_neg z] at e2
      exact A.gr.fh _ _ e2
  have g : Gr F1 H1 F' H := ⟨A.gr.ff.trans ff, A.gr.hh, fh, fun a ha hf => by
    by_cases z : a ∈ Os.map (·.1)
    · obtain ⟨p, hp, rfl⟩ := List.mem_map.mp z
      exact absurd (A.fr p hp) ha
    · show (if a ∈ Os.map (·.1) then H a else F a) = none
      rw [if_neg z]
      exact A.gr.nw a ha hf⟩
  have S' : Sl F' σ qs := hq F' σ (fun p hp => by
    obtain ⟨acc, e, al⟩ := A.at_ p hp
    refine ⟨acc, ?_, al.mono ff⟩
    show (if p.1 ∈ Os.map (·.1) then H p.1 else F p.1) = _
    rw [if_pos (List.mem_map.mpr ⟨p, hp, rfl⟩)]
    exact e) (S.mono ff)
  exact hu Dn σ F' H fh S' fun v F2 H2 g2 p => k v F2 H2 (g.trans g2) p
/-- got.reverse() of a list of one's own -/
theorem jl_rev {i : Nat} {ds : List PyData} (hi : ps[i]? = some (some (xv (.ref D)))) (hD : H1 D = none) : JL K M W D F1 H1 (tDrop (tBM0 K "list" rReverse (tVar i))) ps ds (.nx ps ds.reverse) := fun Dn σ F H A S k => by
  obtain ⟨acc, h0, hd⟩ := A.at_
  exact ⟨.ref D, sl_at S hi, .inl ⟨rfl, acc, sq_of h0⟩, D, acc, rfl, rfl, h0, k σ F _ ⟨gr_mut A.gr hD A.off, A.off, _, upd_same, dpRev hd⟩ (Ex.refl _) S⟩
theorem je_isNone {d : PyData} (ha : JD K M W ta ps d) (hn : d ≠ .none) : JD K M W (tOp (fun x y H Q => y = .non ∧ Q (.bl (decide (x = .non))) H) ta (tC .non)) ps (.bool false) := fun σ F H Q fh S k => ha.go fh S fun v F' H' g p => by
  have e : decide (v = V.non) = false := decide_eq_false fun z => by
    subst z
    cases p
    exact hn rfl
  refine ⟨rfl, ?_⟩
  rw [e]
  exact k _ F' H' g (.bl false)
/-- list(range(n)) -/
theorem je_listRg1 {n : Int} (h : JD K M W te ps (.int n)) (ok : RgOk 0 n) : JV K M W (tLstRg (tRg1 te)) ps (lv K ((rg 0 n.toNat).map .int)) := fun σ F H Q fh S k => h.go fh S fun x F1 H1 e1 p => ⟨n, dp_int p, ok, fun l hl => k _ _ _ (e1.trans (Gr.new e1.fh hl)) ⟨l, _, rfl, upd_same, by
  have := rg_all (K := K) (F := upd F1 l (.lst (rgV 0 n))) 0 n
  rw [Int.sub_zero] at this
  exact this⟩⟩
end
end EB

/-! EB16: defs that end with a list just made, or with an error; own lists told to other names. -/
namespace EB
open PySem PySem.Spec PyProof.Rows L2 Evl
def QW (K : PySem.W.Frag) (M : EC → Addr) (W : WX) (n : Nat) (F H : Hp) (rt : VK) : Except Er (List PyData) → Prop
  | .ok ds => ∀ D F' H', Acc K D F H F' H' ds → H D = none → rt (.ref D) H'
  | .error e => ∀ d u σ' F' H', Gr F H F' H' → H d = none → H' d = some (.xd [(e.c.fld, u)]) → Dp K F' u e.val → σ'.length = n → W (.ref (M e.c)) (some d) σ' H'
theorem QW.step {K : PySem.W.Frag} {M : EC → Addr} {W : WX} {n : Nat} {F H F1 H1 : Hp} {rt : VK} {o : Except Er (List PyData)} (g : Gr F H F1 H1) (h : QW K M W n F H rt o) : QW K M W n F1 H1 rt o := by
  cases o with
  | ok ds => exact fun D F' H' A hD => h D F' H' (A.pre g) (fresh_back g.hh hD)
  | error e => exact fun d u σ' F' H' e2 hn a b l => h d u σ' F' H' (g.trans e2) (fresh_back g.hh hn) a b l
def JSN (K : PySem.W.Frag) (M : EC → Addr) (W : WX) (ts : TS) (ps : Kn) (o : Except Er (List PyData)) : Prop := ∀ Dn σ F H, Ex F H → Sl F σ ps → QW K M W ps.length F H Dn.rt o → ts Dn σ H
def JQ (K : PySem.W.Frag) (M : EC → Addr) (W : WX) (D : Addr) (F1 H1 : Hp) (n : Nat) (ts : TS) (ps : Kn) (ds : List PyData) (o : Except Er (List PyData)) : Prop := ∀ Dn σ F H, Acc K D F1 H1 F H ds → Sl F σ ps → QW K M W n F1 H1 Dn.rt o → ts Dn σ H
section
variable {K : PySem.W.Frag} {M : EC → Addr} {W : WX} {ps qs rs : Kn} {ts tu tv : TS} {ta tb te : TE} {tr : TA} {t : TT} {ds es : List PyData} {o : Except Er (List PyData)} {e : Er}
theorem jsn_ret (h : JN K te ps ds) : JSN K M W (tRet te) ps (.ok ds) := fun Dn σ F H fh S k => h σ F H _ fh S k
theorem jsn_seq (h1 : JS K M W ts ps (.nx qs)) (h2 : JSN K M W tu qs o) (hq : qs.length = ps.length := by first | rfl | (simp; done)) : JSN K M W (tSeq ts tu) ps o := fun Dn σ F H fh S k =>
  h1 { Dn with nx := tu Dn } σ F H fh S fun σ' F' H' g s => h2 Dn σ' F' H' g.fh s (by rw [hq]; exact QW.step g k)
theorem jsn_er (h : JS K M W ts ps (.er e)) : JSN K M W ts ps (.error e) := fun Dn σ F H fh S k => h Dn σ F H fh S k
theorem jsn_erS (h : JS K M W ts ps (.er e)) : JSN K M W (tSeq ts tu) ps (.error e) := jsn_er (js_er h)
theorem jsn_ifT (h : JT K M W t ps true) (k : JSN K M W ts ps o) : JSN K M W (tSeq (tIfS t ts tv) tu) ps o := fun Dn σ F H fh S kk =>
  h σ F H _ fh S fun F1 H1 g => by
    show (if true = true then _ else _)
    rw [if_pos rfl]
    exact k { Dn with nx := tu Dn } σ F1 H1 g.fh (S.mono g.ff) (QW.step g kk)
theorem jsn_ifF (h : JT K M W t ps false) (k : JSN K M W tu ps o) : JSN K M W (tSeq (tIfS t ts tNext) tu) ps o := fun Dn σ F H fh S kk =>
  h σ F H _ fh S fun F1 H1 g => by
    show (if false = true then _ else _)
    rw [if_neg (by decide)]
    exact k Dn σ F1 H1 g.fh (S.mono g.ff) (QW.step g kk)
theorem jsn_is {o' : Except Er (List PyData)} (h : JSN K M W ts ps o) (q : o = o') : JSN K M W ts ps o' := q ▸ h
theorem jsn_own {i : Nat} (he : JN K te ps ds) (h : ∀ D F1 H1, H1 D = none → JQ K M W D F1 H1 ps.length tu (ps.set i (some (xv (.ref D)))) ds o) : JSN K M W (tSeq (tAsg te (gName i)) tu) ps o := fun Dn σ F H fh S k =>
  he σ F H _ fh S fun D F1 H1 A hD => h D F H hD Dn _ F1 H1 A ((S.mono A.gr.ff).set i rfl) k
theorem jn_lst (h : JA K M W tr ps (ds.map (dv K))) (hl : ds.length ≤ 100000 := by first | decide | omega | (simp; done)) : JN K (tLst tr) ps ds := fun σ F H Q fh S k =>
  h σ F H _ fh S fun vs F1 H1 e1 a => ⟨sz_of (by rw [dpLength a.dv]; exact hl), fun p hp => k p F1 _ ⟨gr_mut e1 (fresh_back e1.hh hp) (fresh_back e1.fh hp), fresh_back e1.fh hp, vs, upd_same, a.dv⟩ (fresh_back e1.hh hp)⟩
theorem jn_cat (ha : JV K M W ta ps (lv K ds)) (hb : JV K M W tb ps (lv K es)) (hl : ds.length + es.length ≤ 100000) : JN K (tOp rCat ta tb) ps (ds ++ es) := fun σ F H Q fh S k =>
  ha.go fh S fun x F1 H1 e1 p => hb.go e1.fh (S.mono e1.ff) fun y F2 H2 e2 q => by
    obtain ⟨a, xs, rfl, hx, hd⟩ := (lv K ds).mn e2.ff p
    obtain ⟨b, ys, rfl, hy, he⟩ := q
    have g := e1.trans e2
    exact ⟨a, b, xs, ys, rfl, rfl, e2.fh _ _ hx, e2.fh _ _ hy, sz_of (by rw [dpLength hd, dpLength he]; exact hl), fun p hp => k p F2 _ ⟨gr_mut g (fresh_back g.hh hp) (fresh_back g.fh hp), fresh_back g.fh hp, _, upd_same, dpApp hd he⟩ (fresh_back g.hh hp)⟩
theorem jn_lv (h : JN K te ps ds) : JV K M W te ps (lv K ds) := fun σ F H Q fh S k => h σ F H Q fh S fun D F' H' A hD => by
  obtain ⟨acc, h0, hd⟩ := A.at_
  exact k _ _ H' (gr_in A.gr hD A.off h0) ⟨D, acc, rfl, upd_same, dpAll_mono (Ex.new A.off) hd⟩
theorem jn_sl {tl th : TO} {lo hi : Option Int} (h : JD K M W te ps (.list ds)) (h1 : JO K M W tl ps lo) (h2 : JO K M W th ps hi) : JN K (tSl (rSlL K) te tl th) ps (cutD ds lo hi) := fun σ F H Q fh S k =>
  h.go fh S fun v F1 H1 e1 p => h1 σ F1 H1 _ e1.fh (S.mono e1.ff) fun F2 H2 e2 => h2 σ F2 H2 _ e2.fh ((S.mono e1.ff).mono e2.ff) fun F3 H3 e3 => by
    obtain ⟨a, xs, rfl, hs, hd⟩ := dp_lst (dp_mono (e2.ff.trans e3.ff) p)
    have g := (e1.trans e2).trans e3
    exact ⟨a, xs, rfl, ex_l e3.fh hs, fun q hq => k q F3 _ ⟨gr_mut g (fresh_back g.hh hq) (fresh_back g.fh hq), fresh_back g.fh hq, _, upd_same, cut_all hd lo hi⟩ (fresh_back g.hh hq)⟩
/-! ### while a list of one's own is held -/
variable {D : Addr} {F1 H1 : Hp} {n : Nat}
theorem jq_seq (h1 : JL K M W D F1 H1 ts ps ds (.nx qs es)) (h2 : JQ K M W D F1 H1 n tu qs es o) : JQ K M W D F1 H1 n (tSeq ts tu) ps ds o := fun Dn σ F H A S k =>
  h1 { Dn with nx := tu Dn } σ F H A S fun σ' F' H' A' e S' => h2 Dn σ' F' H' A' S' k
theorem jq_ret {i : Nat} (hi : ps[i]? = some (some (xv (.ref D)))) (hD : H1 D = none) : JQ K M W D F1 H1 n (tRet (tVar i)) ps ds (.ok ds) := fun Dn σ F H A S k => ⟨.ref D, sl_at S hi, k D F H A hD⟩
theorem jq_is {o' : Except Er (List PyData)} (h : JQ K M W D F1 H1 n ts ps ds o) (q : o = o') : JQ K M W D F1 H1 n ts ps ds o' := q ▸ h
theorem jq_retSl {i : Nat} {tl th : TO} {lo hi : Option Int} (hi_ : ps[i]? = some (some (xv (.ref D)))) (h1 : JO K M W tl ps lo) (h2 : JO K M W th ps hi) : JQ K M W D F1 H1 n (tRet (tSl (rSlL K) (tVar i) tl th)) ps ds (.ok (cutD ds lo hi)) := fun Dn σ F H A S k =>
  ⟨.ref D, sl_at S hi_, h1 σ F H _ A.gr.fh S fun F2 H2 e2 => h2 σ F2 H2 _ e2.fh (S.mono e2.ff) fun F3 H3 e3 => by
    have A3 := (A.step e2).step e3
    obtain ⟨acc, h3, hd⟩ := A3.at_
    exact ⟨D, acc, rfl, sq_of h3, fun q hq => k q F3 _ ⟨gr_mut A3.gr (fresh_back A3.gr.hh hq) (fresh_back A3.gr.fh hq), fresh_back A3.gr.fh hq, _, upd_same, cut_all hd lo hi⟩ (fresh_back A3.gr.hh hq)⟩⟩
/-- a test that reads the list of one's own, and an error behind it -/
theorem jq_ifRE {i : Nat} (hi : ps[i]? = some (some (xv (.ref D)))) (h : JT K M W t (ps.set i (some (dv K (.list ds)))) true) (h1 : JS K M W ts ps (.er e)) (hn : ps.length = n) : JQ K M W D F1 H1 n (tSeq (tIfS t ts tv) tu) ps ds (.error e) := fun Dn σ F H A S k => by
  obtain ⟨F0, x0, x1, S0, _⟩ := acc_told A S hi
  refine h σ F0 H _ x1 S0 fun F' H' g => ?_
  have A' : Acc K D F1 H1 F H' ds := by
    obtain ⟨acc, hh, hd⟩ := A.at_
    exact ⟨⟨A.gr.ff, A.gr.hh.trans g.hh, A.gr.fh.trans g.hh, A.gr.nw⟩, A.off, acc, g.hh _ _ hh, hd⟩
  show (if true = true then _ else _)
  rw [if_pos rfl]
  refine h1 { Dn with nx := tu Dn } σ F H' A'.gr.fh S ?_
  rw [hn]
  exact fun d u σ' F' H' g2 hn a b l => k d u σ' F' H' (A'.gr.trans g2) (fresh_back A'.gr.hh hn) a b l
/-- xs.append(e) where e is an int that may be read off xs itself -/
theorem jl_appI {i : Nat} {v : Int} (hi : ps[i]? = some (some (xv (.ref D)))) (hD : H1 D = none) (h : JD K M W te (ps.set i (some (dv K (.list ds)))) (.int v)) (hl : ds.length < 90000) : JL K M W D F1 H1 (tDrop (tBM K "list" rAppend (tVar i) (tCons te tNil))) ps ds (.nx ps (ds ++ [.int v])) := fun Dn σ F H A S k => by
  obtain ⟨acc0, h00, hd0⟩ := A.at_
  obtain ⟨F0, x0, x1, S0, _⟩ := acc_told A S hi
  refine ⟨.ref D, sl_at S hi, (.inl ⟨rfl, acc0, sq_of h00⟩), h.go x1 S0 fun x F2 H2 g p => ?_⟩
  rw [dp_int p]
  have A2 : Acc K D F1 H1 F H2 ds := ⟨⟨A.gr.ff, A.gr.hh.trans g.hh, A.gr.fh.trans g.hh, A.gr.nw⟩, A.off, acc0, g.hh _ _ h00, hd0⟩
  obtain ⟨acc, h2, hd⟩ := A2.at_
  exact ⟨D, acc, .int v, rfl, rfl, h2, sz_lt (by rw [A2.len h2]; omega), k σ F _ (A2.app hD h2 (.int v)) (Ex.refl _) S⟩
/-- a list of one's own within a block; at its end it is told under a name -/
theorem jl_scope {i j : Nat} (qs : Addr → Kn) (he : JN K te ps ds) (h : ∀ D F1 H1, H1 D = none → JL K M W D F1 H1 tu (ps.set i (some (xv (.ref D)))) ds (.nx (qs D) es)) (hj : ∀ D, (qs D)[j]? = some (some (xv (.ref D)))) (hw : ∀ D, Weak ((qs D).set j (some (lv K es))) rs) : JS K M W (tSeq (tAsg te (gName i)) tu) ps (.nx rs) := fun Dn σ F H fh S k =>
  he σ F H _ fh S fun D F1 H1 A hD => h D F H hD Dn _ F1 H1 A ((S.mono A.gr.ff).set i rfl) fun σ' F' H' A' e S' => by
    obtain ⟨acc, h0, hd⟩ := A'.at_
    have fo : Ex F' (upd F' D (.lst acc)) := Ex.new A'.off
    have S2 : Sl (upd F' D (.lst acc)) σ' ((qs D).set j (some (lv K es))) := by
      refine ⟨by rw [List.length_set]; exact S'.1, fun b P hb => ?_⟩
      by_cases z : b = j
      · subst z
        have hl : b < (qs D).length := (List.getElem?_eq_some_iff.mp (hj D)).1
        rw [List.getElem?_set_self hl] at hb
        cases hb
        exact ⟨_, sl_at S' (hj D), D, acc, rfl, upd_same, dpAll_mono fo hd⟩
      · rw [List.getElem?_set_ne (fun y => z y.symm)] at hb
        exact (S'.mono fo).2 b P hb
    exact k σ' _ H' (gr_in A'.gr hD A'.off h0) (S2.weak (hw D))
/-! ### an own list that a statement of some form gives to a name -/
def JAN (K : PySem.W.Frag) (M : EC → Addr) (W : WX) (ts : TS) (ps : Kn) (i : Nat) (ds : List PyData) : Prop := ∀ Dn σ F H, Ex F H → Sl F σ ps → (∀ D F' H', Acc K D F H F' H' ds → H D = none → Dn.nx (σ.set i (some (.ref D))) H') → ts Dn σ H
theorem jan_asg {i : Nat} (he : JN K te ps ds) : JAN K M W (tAsg te (gName i)) ps i ds := fun Dn σ F H fh S k => he σ F H _ fh S fun D F' H' A hD => k D F' H' A hD
theorem jan_ifT {i : Nat} (h : JT K M W t ps true) (k : JAN K M W ts ps i ds) : JAN K M W (tIfS t ts tu) ps i ds := fun Dn σ F H fh S kk => h σ F H _ fh S fun F1 H1 g => by
  show (if true = true then _ else _)
  rw [if_pos rfl]
  exact k Dn σ F1 H1 g.fh (S.mono g.ff) fun D F' H' A hD => kk D F' H' (A.pre g) (fresh_back g.hh hD)
theorem jan_ifF {i : Nat} (h : JT K M W t ps false) (k : JAN K M W tu ps i ds) : JAN K M W (tIfS t ts tu) ps i ds := fun Dn σ F H fh S kk => h σ F H _ fh S fun F1 H1 g => by
  show (if false = true then _ else _)
  rw [if_neg (by decide)]
  exact k Dn σ F1 H1 g.fh (S.mono g.ff) fun D F' H' A hD => kk D F' H' (A.pre g) (fresh_back g.hh hD)
theorem jan_try {tb : WX → TS} {i : Nat} {Wo : WX} {l : List (Value × Nat × (Addr → Value → Option Addr → TS))} {d : PyData} (hb : ∀ W', JAN K M W' (tb W') ps i ds) (h : ∀ D F1 H1, H1 D = none → JL K M W D F1 H1 tu (ps.set i (some (xv (.ref D)))) ds (.rt d)) : JS K M W (tSeq (fun D σ H => tb (wClauses K Wo D l) D σ H) tu) ps (.rt (dv K d)) := fun Dn σ F H fh S k =>
  hb _ { Dn with nx := tu Dn } σ F H fh S fun D F1 H1 A hD => h D F H hD Dn _ F1 H1 A ((S.mono A.gr.ff).set i rfl) fun v F' H' g p => k v F' H' g p
/-! ### a def's end -/
theorem fin_neO {N : List Str} {Ps : List PV} {us : List V} {F H : Hp} {Q : VK} {E : XK} (h : JSN K M (fun cls d _ H => E cls d H) ts (entry N Ps) (.ok ds)) (fh : Ex F H) (al : AllP F us Ps) (th : ∀ D F' H', Acc K D F H F' H' ds → H D = none → Q (.ref D) H') : ts { nx := fun _ H' => Q .non H', rt := Q } (start N us) H :=
  h _ _ F H fh (Sl.start al) th
theorem fin_neE {N : List Str} {Ps : List PV} {us : List V} {F H : Hp} {Q : VK} {E : XK} (h : JSN K M (fun cls d _ H => E cls d H) ts (entry N Ps) (.error e)) (fh : Ex F H) (al : AllP F us Ps) (th : ∀ d u F' H', Gr F H F' H' → H d = none → H' d = some (.xd [(e.c.fld, u)]) → Dp K F' u e.val → E (.ref (M e.c)) (some d) H') : ts { nx := fun _ H' => Q .non H', rt := Q } (start N us) H :=
  h _ _ F H fh (Sl.start al) fun d u σ' F' H' g hn a b _ => th d u F' H' g hn a b
theorem je_catA {as bs : List PyData} (ha : JD K M W ta ps (.tuple as)) (hb : JD K M W tb ps (.tuple bs)) (hl : as.length + bs.length ≤ 100000) : JD K M W (tOp (rCatA K) ta tb) ps (.tuple (as ++ bs)) := je_op ha hb fun x y F H fh p q Q k => by
  obtain ⟨a, xs, rfl, hx, hd⟩ := dp_tup p
  obtain ⟨b, ys, rfl, hy, he⟩ := dp_tup q
  refine ⟨a, b, xs, ys, rfl, rfl, ex_t fh hx, ex_t fh hy, sz_of (by rw [dpLength hd, dpLength he]; exact hl), fun z => ?_, fun _ z => ?_, fun _ _ p hp => ?_⟩
  · subst z
    cases hd
    exact k _ F H (Gr.refl fh) q
  · subst z
    cases he
    rw [List.append_nil] at *
    exact k _ F H (Gr.refl fh) p
  · have g := Gr.new (o := .tup (xs ++ ys)) fh hp
    exact k _ _ _ g (.tup (st_of upd_same) (dpApp (dpAll_mono g.ff hd) (dpAll_mono g.ff he)))
theorem je_divW {i j : Int} (ha : JD K M W ta ps (.int i)) (hb : JD K M W tb ps (.int j)) (hc : CDivW i j) : JD K M W (tOp (rI CDivW fun i j => .int (i / j)) ta tb) ps (.int (i / j)) := je_iiC ha hb hc fun _ => .int _
end
end EB

/-! EB17: generator defs that hand out a list by yield from, and list(g). -/
namespace EB
open PySem PySem.Spec PyProof.Rows L2 Evl GenW
section
variable {prog : Program} {w : World} {A : Around} {E : Value → Shared → Prop} {s : Shared} {it l : Addr} {i : Nat} {items : Array Value}
theorem li_of {h : Heap} (z : h.get? it = some (GNX.itObj l i)) : h.IsListIter it l i := ⟨GNX.itObj l i, z, rfl, rfl⟩
theorem lst_item {x : Value} {Q : Option Value → Shared → Prop} (z : s.heap.get? it = some (GNX.itObj l i)) (hl : s.heap.IsList l items) (hx : items[i]? = some x)
    (k : ∀ h', h'.get? it = some (GNX.itObj l (i + 1)) → Heap.SameBut it s.heap h' → Q (some x) { s with heap := h' }) : wpAny (model prog w) A (callSpecial? (.ref it) "__next__") Q E s :=
  wpAny_callSpecial?_slot (name := Str.ofString "__next__") (li_of z).typeIs slot_listiter_next (wpAny_call_entry slot_listiter_next (li_of z).typeIs entry_listiter_next (GNX.next_item (Q := fun v => Q (some v)) z hl hx k) (args_listiter_next _))
theorem lst_end {Q : Option Value → Shared → Prop} (hA : A.handled = none) (z : s.heap.get? it = some (GNX.itObj l i)) (hl : s.heap.IsList l items) (hx : items[i]? = none)
    (k : ∀ e h', StopX e h' → Heap.ExtBut it s.heap h' → E e { s with heap := h' }) : wpAny (model prog w) A (callSpecial? (.ref it) "__next__") Q E s := by
  obtain ⟨oL, zL, _, nL, dL⟩ := hl
  refine wpAny_callSpecial?_slot (name := Str.ofString "__next__") (li_of z).typeIs slot_listiter_next (wpAny_call_entry slot_listiter_next (li_of z).typeIs entry_listiter_next ?_ (args_listiter_next _))
  refine (show wpAny _ _ (field (.ref it) 0 >>= _) _ _ s from wpAny_bind (wpAny_field z rfl (x := .ref l) rfl ?_))
  refine (show wpAny _ _ (if (Value.ref l == Value.none) = true then _ else _) _ _ s from ?_); rw [if_neg (show ¬ ((Value.ref l == Value.none) = true) from Bool.false_ne_true)]
  refine (show wpAny _ _ (field (.ref it) 1 >>= _) _ _ s from wpAny_bind (wpAny_field z rfl (x := .int i 0) rfl ?_))
  refine (show wpAny _ _ (seqItems? (.ref l) >>= _) _ _ s from wpAny_bind (wpAny_seqItems zL dL ?_)); simp only [Int.toNat_natCast, hx]
  refine wpAny_bind (wpAny_rule (wpAny_bind (wpAny_setField z rfl (by simp) (show wpAny _ _ (newExc (.type "StopIteration") [] >>= _) _ _ _ from wpAny_bind ?_))))
  simp only [newExc, newTuple]; refine wpAny_bind (wpAny_newObj_type (wpAny_bind (m := firstArgMember _ _) (wpAny_of_eq (a := Value.none) (by first | rfl | (simp only [firstArgMember]; rfl)) (wpAny_newObj_type ?_ (by size_fits)))) (by size_fits))
  simp only [raiseNew]; refine wpAny_bind (wpAny_handled ?_); first | rw [show A.in1.handled = none from hA] | rw [hA]
  refine wpAny_bind (wpAny_pure (wpAny_throw (k _ _ ⟨_, _, _, rfl, Heap.get?_push_size _ rfl, rfl, rfl, ?_⟩ (((Heap.SameBut.update ..).extBut.push _).push _))))
  first | rfl | (rw [Array.getElem?_append_left (by decide)]; rfl) | kernel_rfl
end
def tYfLst (te : TE) : TYf := fun σ H Q => te σ H fun x H1 => ∃ a xs, x = .ref a ∧ H1 a = some (.lst xs) ∧ Q xs H1
theorem close_lst : typeLookup (.type "list_iterator") "close" = pure none := by rw [typeLookup_type, builtinLookup_eq_fast]; kernel_rfl
theorem yf_lst {X : Cx} {e : Expr} {te : TE} (he : PE X e te) : YfE X e (tYfLst te) := by
  refine ⟨fun pins s σ H Q I hyp => thn (he.run pins s σ H _ I hyp) fun v s1 ⟨x, H1, I1, rv, a, xs, ex, at_, hq⟩ => ?_⟩
  subst ex
  obtain rfl : v = Value.ref a := rv
  obtain ⟨its, rits, pl, _⟩ := I1.list (SqL.of (K := X.K) at_)
  have isl : s1.heap.IsList a its.toArray := pl.isList
  have old : ∀ b ob, s1.heap.get? b = some ob → b ≠ s1.heap.objs.size := fun b ob z => Nat.ne_of_lt (Heap.lt_size z)
  have up : ∀ b ob, s1.heap.get? b = some ob → (s1.heap.push (GNX.itObj a 0)).get? b = some ob := fun b ob z => Heap.get?_push_of_some _ z
  refine ⟨"list", isl.typeIs, by decide, wpAny_pyIter_list isl ?_⟩
  let St : Nat → Heap → Prop := fun j h => h.get? s1.heap.objs.size = some (GNX.itObj a j) ∧ h.IsList a its.toArray
  have ane : a ≠ s1.heap.objs.size := by
    obtain ⟨ob, z, _⟩ := isl
    exact old a ob z
  have qit : QIt X H1 s1.heap.objs.size xs St := by
    refine ⟨⟨"list_iterator", fun j h q => ⟨_, q.1, rfl⟩, close_lst, by decide⟩, fun j h h' q hk => ?_, fun A' j y s2 Q' E' hA hy q hQ => ?_, fun A' s2 Q' E' hA q hE => ?_⟩
    · obtain ⟨q1, ob, q2, q3⟩ := q
      exact ⟨hk _ _ (.inl rfl) q1, ob, hk _ _ (.inr (by rw [at_]; exact fun z => nomatch z)) q2, q3⟩
    · obtain ⟨u, hu, ru⟩ := rits.get hy
      exact lst_item q.1 q.2 (x := u) (by simpa using hu) fun h' q1 sb => hQ u h' s2.toks ru ⟨q1, q.2.extBut sb.extBut ane⟩ fun b ob hb eb => sb.extBut b ob hb eb
    · have len := rits.length
      have no : its.toArray[xs.length]? = none := by
        have : its[xs.length]? = none := List.getElem?_eq_none_iff.mpr (by omega)
        simpa using this
      exact lst_end hA q.1 q.2 no fun e h' st sb => hE e h' s2.toks st fun b ob hb eb => sb b ob hb eb
  exact ⟨s1.heap.objs.size, H1, xs, St, rfl, I1.kept (t' := s1.toks) up, .inr I1.sz, Nat.ne_of_gt I1.lt, fun y c hy => by
    obtain ⟨v, ob, ho, _⟩ := I1.cell y c hy
    exact old c ob ho, I1.hok.fresh (Nat.le_refl _), fun p hp => old p.1 _ (I1.pin p hp).1, ⟨Heap.get?_push_size _ rfl, isl.push _⟩, qit, hq⟩
/-! ### a generator def's promise -/
/-- it hands out the items, or raises before the first one -/
def PrmG (K : PySem.W.Frag) (M : EC → Addr) {α : Type} (args : α → List PV) (dom : α → Prop) (out : α → Except Er (List PyData)) : SpG := fun vs H Q E => ∃ a F, Ex F H ∧ AllP F vs (args a) ∧ dom a ∧ (match out a with
  | .ok ds => ∀ ys F' H', Gr F H F' H' → DpAll K F' ys ds → Q ys H'
  | .error e => ∀ d u F' H', Gr F H F' H' → H d = none → H' d = some (.xd [(e.c.fld, u)]) → Dp K F' u e.val → E (.ref (M e.c)) (some d) H')
/-- what a call in the body may end in, whatever the slots then hold -/
def genE (K : PySem.W.Frag) (W : WX) (n : Nat) : XK := fun cls d H => PySem.W.subIn K cls (.type "StopIteration") = some false ∧ ∀ σ : L2.St, σ.length = n → W cls d σ H
theorem passG {X : Cx} {W : WX} {n : Nat} (tk : Takes X W) (hn : X.N.length = n) : Passes (L2.CX X.prog X.w) X (genE X.K W n) := fun pins σ H s e s' I c => tk e s' (XE.of_call I (fun _ _ _ h => h.2 σ (I.len.trans hn)) c)
theorem noStopG {K : PySem.W.Frag} {W : WX} {n : Nat} : NoStop K (genE K W n) := fun cls d H h => h.1
theorem jn_listG {K : PySem.W.Frag} {M : EC → Addr} {W : WX} {ps : Kn} {tr : TA} {α : Type} {args : α → List PV} {dom : α → Prop} {out : α → Except Er (List PyData)} {E : XK} (a : α) {ds : List PyData} (h : JA K M W tr ps (args a)) (hd : dom a) (ho : out a = .ok ds) : JN K (tListG (tCallG (PrmG K M args dom out) [] E tr)) ps ds := fun σ F H Q fh S k =>
  h σ F H _ fh S fun vs F1 H1 e1 al => by
    refine ⟨a, F1, e1.fh, by rw [List.append_nil]; exact al, hd, ?_⟩
    rw [ho]
    exact fun ys F2 H2 g hy p hp => by
      have g2 := e1.trans g
      exact k p F2 _ ⟨gr_mut g2 (fresh_back g2.hh hp) (fresh_back g2.fh hp), fresh_back g2.fh hp, ys, upd_same, hy⟩ (fresh_back g2.hh hp)
theorem je_listG {K : PySem.W.Frag} {M : EC → Addr} {W : WX} {ps : Kn} {tr : TA} {α : Type} {args : α → List PV} {dom : α → Prop} {out : α → Except Er (List PyData)} {n : Nat} {i : Nat} (a : α) {e : Er} (h : JA K M W tr ps (args a)) (hd : dom a) (ho : out a = .error e) (hs : PySem.W.subIn K (.ref (M e.c)) (.type "StopIteration") = some false) (hn : ps.length = n) : JS K M W (tAsg (tListG (tCallG (PrmG K M args dom out) [] (genE K W n) tr)) (gName i)) ps (.er e) := fun D σ F H fh S k =>
  h σ F H _ fh S fun vs F1 H1 e1 al => by
    refine ⟨a, F1, e1.fh, by rw [List.append_nil]; exact al, hd, ?_⟩
    rw [ho]
    exact fun d u F2 H2 g hd2 hx hp => ⟨hs, fun σ' hl => k d u σ' F2 H2 (e1.trans g) (fresh_back e1.hh hd2) hx hp (by rw [hl, hn])⟩
end EB

/-! EB18: a comprehension of two for's, as a plain list. -/
namespace EB
open PySem PySem.Spec PyProof.Rows L2 Evl
section
variable {K : PySem.W.Frag} {M : EC → Addr} {W : WX} {ps : Kn} {te : TE} {t : TT} {vs : List Nat}
theorem je_lc2V {α β : Type} {wi wi1 : TI} {g g1 : TG} {u : TT} {vs1 : List Nat} (xs : List α) (ys : α → List β) (enc : α → PyData) (enc1 : β → PyData) (b : α → β → Bool) (e : α → β → PyData) {W' : WX} (hi : JI K M W wi ps (xs.map enc))
    (hlen : (xs.flatMap fun x => ((ys x).filter (b x)).map (e x)).length ≤ 90000)
    (hs : ∀ x ∈ xs, ∃ qs, JG vs g (wipeK ps vs) (dv K (enc x)) qs ∧ JT K M W' t qs true ∧ JI K M W' wi1 qs ((ys x).map enc1) ∧
      ∀ y ∈ ys x, ∃ rs, JG vs1 g1 (wipeK qs vs1) (dv K (enc1 y)) rs ∧ JT K M W' u rs (b x y) ∧ (b x y = true → JD K M W' te rs (e x y))) :
    JV K M W (tLc2 wi g t wi1 g1 u te vs vs1) ps (lv K (xs.flatMap fun x => ((ys x).filter (b x)).map (e x))) := fun σ F H Q fh S k => hi σ F H _ fh S fun J F1 H1 e1 it D hD => by
  let out : α → List PyData := fun x => ((ys x).filter (b x)).map (e x)
  refine ⟨fun i n H' => n = xs.length - i ∧ i ≤ xs.length ∧ ∃ F', Acc K D F1 H1 F' H' ((xs.take i).flatMap out), ⟨xs.length, by omega, Nat.zero_le _, F1, Acc.start e1.fh hD⟩, ?_⟩
  rintro i n H' ⟨rfl, him, F2, A⟩
  by_cases hlt : i < xs.length
  · have hx : xs[i]? = some xs[i] := List.getElem?_eq_getElem hlt
    have hmem : xs[i] ∈ xs := List.getElem_mem hlt
    have hex : (xs.map enc)[i]? = some (enc xs[i]) := by rw [List.getElem?_map, hx] <;> rfl
    refine .inr ⟨it.go i H' (A.gr.ff.trans A.gr.fh) (by rw [List.length_map]; exact hlt), fun H3 => ∃ F3, Acc K D F1 H1 F3 H3 ((xs.take (i + 1)).flatMap out), fun H3 q => ⟨xs.length - (i + 1), by omega, rfl, hlt, q⟩, fun x H3 y => ?_⟩
    obtain ⟨F3, e3, dx⟩ := it.yld i _ F2 H' x H3 A.gr.ff A.gr.fh hex y
    have A3 := A.step e3
    obtain ⟨qs, hg, ht, hi1, hin⟩ := hs xs[i] hmem
    refine hg x (wipe σ vs) F3 H3 _ e3.fh ((S.mono (e1.ff.trans A3.gr.ff)).wipe vs) dx fun σ4 F4 H4 e4 S4 u4 => ⟨wipe_upto (upto_wipe.trans u4), ht σ4 F4 H4 _ e4.fh S4 fun F5 H5 e5 => ?_⟩
    have A5 := (A3.step e4).step e5
    show wi1 σ4 H5 _
    refine hi1 σ4 F5 H5 _ e5.fh (S4.mono e5.ff) fun J1 F6 H6 e6 it1 => ?_
    have A6 := A5.step e6
    have pre := flatMap_take_le out xs (i + 1)
    rw [flatMap_take_succ hx, List.length_append] at pre
    refine ⟨fun j n H' => n = (ys xs[i]).length - j ∧ j ≤ (ys xs[i]).length ∧ ∃ F', Ex F6 F' ∧ Acc K D F1 H1 F' H' ((xs.take i).flatMap out ++ (((ys xs[i]).take j).filter (b xs[i])).map (e xs[i])), ⟨(ys xs[i]).length, by omega, Nat.zero_le _, F6, Ex.refl _, by simpa using A6⟩, ?_⟩
    rintro j n H7 ⟨rfl, hj, F7, x67, A7⟩
    by_cases hjl : j < (ys xs[i]).length
    · have hy : (ys xs[i])[j]? = some (ys xs[i])[j] := List.getElem?_eq_getElem hjl
      have ymem : (ys xs[i])[j] ∈ ys xs[i] := List.getElem_mem hjl
      have hey : ((ys xs[i]).map enc1)[j]? = some (enc1 (ys xs[i])[j]) := by rw [List.getElem?_map, hy] <;> rfl
      refine .inr ⟨it1.go j H7 (x67.trans A7.gr.fh) (by rw [List.length_map]; exact hjl), fun H8 => ∃ F8, Ex F6 F8 ∧ Acc K D F1 H1 F8 H8 ((xs.take i).flatMap out ++ (((ys xs[i]).take (j + 1)).filter (b xs[i])).map (e xs[i])), fun H8 q => ⟨(ys xs[i]).length - (j + 1), by omega, rfl, hjl, q⟩, fun x1 H8 y1 => ?_⟩
      obtain ⟨F8, e8, dy⟩ := it1.yld j _ F7 H7 x1 H8 x67 A7.gr.fh hey y1
      have A8 := A7.step e8
      obtain ⟨rs, hg1, ht1, he1⟩ := hin _ ymem
      refine hg1 x1 (wipe σ4 vs1) F8 H8 _ e8.fh ((S4.mono ((e5.ff.trans e6.ff).trans (x67.trans e8.ff))).wipe vs1) dy fun σ9 F9 H9 e9 S9 u9 => ⟨wipe_upto (upto_wipe.trans u9), ht1 σ9 F9 H9 _ e9.fh S9 fun Fa Ha ea => ?_⟩
      have Aa := (A8.step e9).step ea
      have ff := filter_take_succ (b := b xs[i]) hy
      have pre2 : (((ys xs[i]).take j).filter (b xs[i])).length ≤ ((ys xs[i]).filter (b xs[i])).length := by
        conv => rhs; rw [← List.take_append_drop j (ys xs[i])]
        rw [List.filter_append, List.length_append]
        omega
      have lout : (out xs[i]).length = ((ys xs[i]).filter (b xs[i])).length := List.length_map _
      cases hb : b xs[i] (ys xs[i])[j] with
      | true =>
        rw [hb] at ff
        show te σ9 Ha _
        refine (he1 hb).go ea.fh (S9.mono ea.ff) fun v Fb Hb eb p => ?_
        have Ab := Aa.step eb
        obtain ⟨acc, hb6, _⟩ := Ab.at_
        refine ⟨acc, hb6, sz_lt ?_, Fb, ((x67.trans e8.ff).trans e9.ff).trans (ea.ff.trans eb.ff), ?_⟩
        · rw [Ab.len hb6, List.length_append, List.length_map]
          have h1 : (xs.flatMap out).length ≤ 90000 := hlen
          omega
        · rw [ff, List.map_append, ← List.append_assoc]
          exact Ab.app hD hb6 p
      | false =>
        rw [hb] at ff
        show ∃ F8, Ex F6 F8 ∧ Acc K D F1 H1 F8 Ha _
        rw [ff]
        simp only [Bool.false_eq_true, if_false, List.append_nil]
        exact ⟨Fa, ((x67.trans e8.ff).trans e9.ff).trans ea.ff, Aa⟩
    · have hem : j = (ys xs[i]).length := by omega
      subst hem
      rw [List.take_length] at A7
      refine .inl ⟨it1.stop _ H7 (x67.trans A7.gr.fh) (by rw [List.length_map]; exact Nat.le_refl _), F7, ?_⟩
      rw [flatMap_take_succ hx]
      exact A7
  · have hem : i = xs.length := by omega
    subst hem
    rw [List.take_length] at A
    obtain ⟨acc0, h0, hd0⟩ := A.at_
    exact .inl ⟨it.stop _ H' (A.gr.ff.trans A.gr.fh) (by rw [List.length_map]; exact Nat.le_refl _), k _ _ H' (e1.trans (gr_in A.gr hD A.off h0)) ⟨D, acc0, rfl, upd_same, dpAll_mono (Ex.new A.off) hd0⟩⟩
end
end EB

/-! EB19: defs that are only called where no repr is at work (the guards are known), repr of data, the row's end for such a law. -/
namespace EB
open PySem PySem.Spec PyProof.Rows L2 Evl
structure RoomG (k : Nat) (A : Around) : Prop where
  rm : Room k A
  gd : A.guards = some []
theorem RoomG.mono {j k : Nat} {A : Around} (h : RoomG k A) (q : j ≤ k) : RoomG j A := ⟨h.rm.mono q, h.gd⟩
structure FnG (P : Program) (w : World) (K : PySem.W.Frag) (mg : Str → Option Value) (base : Heap) (CX : CXT) (k : Nat) (f : Addr) (fd : FuncData) (ps : List Str) (sp : Sp) : Prop where
  len : ∀ vs H Q E, sp vs H Q E → vs.length = ps.length
  run : ∀ (A : Around) (outer : List Env) (s : Shared) (H : Hp) (args : Args) (us : List Value) (vs : List V) (Q : VK) (E : XK), RoomG k A → Env0 P w K mg base A outer s H → BindsTo s fd args (ps.zip us) → Vals vs us → sp vs H Q E →
    codeAny (model P w) A (.call (.ref f) args) (CR CX outer P w H s Q E) s
theorem fn_ofG {CX : CXT} {P : Program} {w : World} {K : PySem.W.Frag} {mg : Str → Option Value} {base : Heap} {k : Nat} {f : Addr} {nm ql : Str} {pr : Arguments} {bd : List Stmt} {sc : Scope} {dV kV doc pm cdv ct oc : Value} {an od : Option Addr}
    {osl : Array (Option Value)} {N ps : List Str} {sp : Sp} (at_ : K.lookup f = some ⟨oc, od, .func (PySem.W.fnOf nm ql pr bd sc dV kV doc pm an cdv ct), osl⟩) (cd : PySem.W.codeIn K cdv ql = true) (S : FnScope N ps sc) (len : ∀ vs H Q E, sp vs H Q E → vs.length = ps.length)
    (hb : ∀ (A : Around) (outer : List Env) (s : Shared) (H : Hp) (vs : List V) (Q : VK) (E : XK), RoomG k (A.deeper (envOfC ql sc s.heap.objs.size f cdv)) → sp vs H Q E →
      ∃ t, PSs (cxOf CX P w K mg base N ql sc f cdv A outer s H E) bd t ∧ t { nx := fun _ H' => Q .non H', rt := Q } (start N vs) H) : FnG P w K mg base CX (k + 1) f (PySem.W.fnOf nm ql pr bd sc dV kV doc pm an cdv ct) ps sp where
  len := len
  run := fun A outer s H args us vs Q E room env bind rv want => by
    have KS : K.In s.heap := env.mod.kin.keeps fun b o z => (env.bs b o z).1
    have nolim : s.heap.NoLimit := env.mod.nolimit.keeps fun b o z => (env.bs b o z).1
    have kinds : ∀ y ∈ ps.zip us, sc.names.lookup y.1 = some .local ∨ (sc.names.lookup y.1 = some .cell ∧ ((cellsFrom (s.heap.objs.size + 1) sc.names []).lookup y.1).isSome = true) := fun ⟨y, u⟩ hy =>
      (S.par y (List.of_mem_zip hy).1).elim .inl fun q => .inr ⟨q, PySem.W.cellsFrom_some _ _ _ (.inl q)⟩
    refine codeAny_call_function room.rm.depth (KS _ _ at_) rfl S.co S.gen rfl (PySem.W.codeRec_of KS cd) (bind _ _ _ _ (wpAny_newFunctionEnv_cells S.kind kinds fun ev hv s1 inn => ?_))
    subst hv
    refine ⟨nolim.keeps inn.toInCall.keep, codeAny_func ?_⟩
    obtain ⟨t, tp, tq⟩ := hb A outer s H vs Q E ⟨room.rm.deeper _, room.gd⟩ want
    have I0 : Inv (cxOf CX P w K mg base N ql sc f cdv A outer s H E) [] (start N vs) H s1 := inv_start S room.rm.hd env (len _ _ _ _ want) rv inn
    refine wpAny_mono (tp.run [] s1 (start N vs) H _ I0 tq) (fun fl s2 sp2 => ?_) fun _ _ z => z
    cases fl with
    | ret u => obtain ⟨v, σ2, H2, J, r2, q2⟩ := sp2; exact ⟨v, H2, J.os, J.bare, J.base, J.hok, r2, q2⟩
    | next => obtain ⟨σ2, H2, J, q2⟩ := sp2; exact ⟨V.non, H2, J.os, J.bare, J.base, J.hok, rfl, q2⟩
    | brk => exact sp2.elim fun _ z => z.elim fun _ z => z.2.elim
    | cont => exact sp2.elim fun _ z => z.elim fun _ z => z.2.elim
/-- a def of the text, that may raise -/
theorem okG {P : Program} {w : World} {K : PySem.W.Frag} {mg : Str → Option Value} {base : Heap} {CX : CXT} {x ql : Str} {st : Stmt} {f : Addr} {fd : FuncData} {N ps : List Str} {k : Nat} {sp : Sp} (F : Fun K x ql st f fd) (S : FnScope N ps (defScope st)) (len : ∀ vs H Q E, sp vs H Q E → vs.length = ps.length)
    (hb : ∀ (cdv : Value) (A : Around) (outer : List Env) (s : Shared) (H : Hp) (vs : List V) (Q : VK) (E : XK), RoomG k (A.deeper (envOfC ql (defScope st) s.heap.objs.size f cdv)) → sp vs H Q E →
      ∃ t, PSs (cxOf CX P w K mg base N ql (defScope st) f cdv A outer s H E) (defBody st) t ∧ t { nx := fun _ H' => Q .non H', rt := Q } (start N vs) H) : FnG P w K mg base CX (k + 1) f fd ps sp := by
  obtain ⟨oc, od, kV, doc, pm, an, cdv, ct, osl, e, at_, cd⟩ := F.ex
  rw [e] at at_ ⊢
  exact fn_ofG at_ cd S len fun A outer s H vs Q E room want => hb cdv A outer s H vs Q E room want
section
variable {X : Cx} {CX : CXT} {k : Nat} {f : Addr} {fd : FuncData} {ps : List Str} {sp : Sp} {E : L2.St → XK} {x : Str} {p pos : Pos} {e : Expr} {es : List Expr} {t : TA}
theorem run_fnG {pins : List (Addr × Obj)} {σ : L2.St} {H : Hp} {s : Shared} {Q : VK} {us : List Value} {vs : List V} (F : FnG X.prog X.w X.K X.mg X.base CX k f fd ps sp) (room : RoomG k X.A) (bd : Binds X.K fd ps []) (px : PassesAt CX X σ (E σ)) (I : Inv X pins σ H s) (rv : Vals vs us) (want : sp vs H Q (E σ)) : wpAny (model X.prog X.w) X.A (call (.ref f) us) (EP X pins σ Q) X.xe s := by
  have el : us.length = ps.length := rv.length.symm.trans (F.len _ _ _ _ want)
  have bnd : BindsTo s fd ⟨us, []⟩ (ps.zip us) := by
    have := bd s us I.kIn (by rw [List.append_nil, el])
    rwa [List.append_nil] at this
  refine wpAny_call (codeAny_mono (F.run X.A X.stack s H ⟨us, []⟩ us vs Q (E σ) room I.env0 bnd rv want) fun res s2 z => ?_)
  match res, z with
  | .error ev, z => exact px pins H s ev s2 I z
  | .ok (.ret u), z => exact I.after z
  | .ok .next, z => exact z.elim
  | .ok .brk, z => exact z.elim
  | .ok .cont, z => exact z.elim
/-- f(e, ..) of such a def -/
theorem pe_callSG (F : FnG X.prog X.w X.K X.mg X.base CX k f fd ps sp) (room : RoomG k X.A) (hg : Gl X x) (hm : X.mg x = some (.ref f)) (hk : PySem.W.keepIn X.K (.ref f) = true) (bd : Binds X.K fd ps []) (px : ∀ σ, PassesAt CX X σ (E σ))
    (ha : PA X (e :: es) t) (hdb : (x == ("__debug__" : Str)) = false := by decide) (he : starEach (e :: es) X.env = (false, eval e X.env) :: starEach es X.env := by rfl) (hpl : (backTo pos (starEach es X.env)).any (·.1) = false := by rfl) :
    PE X (.Call (.Name x p) (e :: es) [] pos) (tCallS sp E t) :=
  ⟨fun pins s σ H Q I want => wpAny_Call_Name_kw (ld_glob I hg hm (PySem.W.callWith_K (h₀ := X.base) I.ok.mod.kin hk (thn (ha.run pos pins s σ H _ I want) fun us s1 ⟨vs, H1, I1, rv, q⟩ => ⟨I1.kIn, run_fnG F room bd (px σ) I1 rv q⟩) he hpl) hdb)⟩
/-- repr of a list or a tuple, told as data -/
def rRepr (K : PySem.W.Frag) : List V → Hp → VK → Prop := fun xs H Q => ∃ (a : Addr) (d : PyData), xs = [.ref a] ∧ Dp K H (.ref a) d ∧ d.showable = true ∧ d.hasDict = false ∧ d.depth ≤ 60 ∧ d.shown.length ≤ sizeLine ∧ Q (.str d.shown) H
theorem cr_repr (room : RoomG k X.A) : CallR X (.builtin "repr") (rRepr X.K) := by
  intro pins s σ H xs us Q I rv want
  obtain ⟨a, d, rfl, hd, sh, nd, dp, sz, q⟩ := want
  obtain rfl := Vals.ref1 rv
  obtain ⟨as, rd⟩ := Dp.reads I d (.ref a) (.ref a) hd rfl
  have un := room.rm.un
  exact repr_of_reads' rd sh (fun z => by rw [nd] at z; cases z) room.gd (by omega) (fun b o z => z) (fun h' u tk kept => ⟨.str d.shown, H, I.kept (t' := tk) kept, ⟨_, rfl⟩, q⟩) sz
end
section
variable {K : PySem.W.Frag} {M : EC → Addr} {W : WX} {ps : Kn} {te : TE}
theorem je_repr {d : PyData} (h : JD K M W te ps d) (hr : (∃ ds, d = .list ds) ∨ ∃ ds, d = .tuple ds) (sh : d.showable = true) (nd : d.hasDict = false) (dp : d.depth ≤ 60) (sz : d.shown.length ≤ sizeLine) : JD K M W (tCB (rRepr K) (tCons te tNil)) ps (.str d.shown) := je_cb (ja_cons h ja_nil) fun vs F H fh b Q k => by
  obtain ⟨v, rfl, p⟩ := allP1 b
  have p2 := dp_mono fh p
  rcases hr with ⟨ds, rfl⟩ | ⟨ds, rfl⟩
  · obtain ⟨a, xs, rfl, _, _⟩ := dp_lst p2
    exact ⟨a, _, rfl, p2, sh, nd, dp, sz, k _ F H (Gr.refl fh) (.str _)⟩
  · obtain ⟨a, xs, rfl, _, _⟩ := dp_tup p2
    exact ⟨a, _, rfl, p2, sh, nd, dp, sz, k _ F H (Gr.refl fh) (.str _)⟩
end
end EB

/-! EB20: the end of a law's row for a law whose defs want the guards known. -/
namespace EB
open PySem PySem.Spec PyProof.Rows L2 Evl
theorem law_callG {P : Program} {w : World} {K : PySem.W.Frag} {mg mb : Str → Option Value} {CX : CXT} {k : Nat} {fa a : Addr} {fd : FuncData} {x : Str} {sp : Sp} {t : Shared} {us : List Value} {ns : List Int}
    (kin : K.In t.heap) (nsM : t.heap.Ns mainGlobals mg) (nsB : t.heap.Ns builtinsNs mb) (same : ∀ y : Str, y ≠ "__name__" → mb y = bootBuiltins y) (nol : t.heap.NoLimit) (nog : t.gens = #[])
    (scr : t.heap.get? a = some { cls := .type "list", data := .seq us.toArray }) (isI : IntsAre us ns) (sz : ns.length ≤ sizeLine) (room : Room k callerA) (F : ∀ base : Heap, K.In base → base.Ns mainGlobals mg → FnG P w K mg base CX k fa fd [x] sp)
    (bd : ∀ (s : Shared) (u : Value), BindsTo s fd ⟨[u], []⟩ [(x, u)]) (want : ∀ H : Hp, Only H → SqL K H a (ns.map V.int) → sp [.ref a] H (fun v _ => v = .bl true) fun _ _ _ => False) (noE : ∀ H e s', CX [] H t (fun _ _ _ => False) e s' → False) :
    codeAny (model P w) callerA (.call (.ref fa) ⟨[.ref a], []⟩) (fun r s' => r = .ok (.ret (.bool true)) ∧ OldK t.heap s'.heap ∧ s'.os = t.os ∧ AllBare s'.gens) t := by
  have rel := vals_ints isI
  have lenU := isI.length
  have main : ∀ H : Hp, Only H → SqL K H a (ns.map V.int) → HOk P w H t.heap → (∀ b, H b ≠ none → b = a) → (H a ≠ none → K.lookup a = none) → codeAny (model P w) callerA (.call (.ref fa) ⟨[.ref a], []⟩) (fun r s' => r = .ok (.ret (.bool true)) ∧ OldK t.heap s'.heap ∧ s'.os = t.os ∧ AllBare s'.gens) t := by
    intro H only sq ok one off
    have isA : ∀ {b : Addr} {u : HO}, H b = some u → b = a := fun {b u} z => one b (by rw [z]; exact fun y => nomatch y)
    have low : ∀ {b : Addr} {o : Obj}, t.heap.get? b = some o → H b = none → (hidT t.heap H).get? b = some o := fun z n => hidT_get z n
    have nsLow : ∀ {b : Addr} {m : Str → Option Value}, t.heap.Ns b m → (hidT t.heap H).Ns b m := fun {b m} ⟨o, es, ep, z, dd, r⟩ => ⟨o, es, ep, low z (by
      cases q : H b with
      | none => rfl
      | some u =>
        rw [isA q, scr] at z
        cases z
        have dd2 : Data.seq us.toArray _ = Data.dict es ep := dd
        cases dd2), dd, r⟩
    have kLow : K.In (hidT t.heap H) := fun b o z => low (kin b o z) (by
      cases q : H b with
      | none => rfl
      | some u =>
        have zb := isA q
        rw [zb] at z q
        rw [off (by rw [q]; exact fun y => nomatch y)] at z
        cases z)
    obtain ⟨mc, l1, l2⟩ := nol
    have env : Env0 P w K mg (hidT t.heap H) callerA [] t H := ⟨rfl, ⟨kLow, nsLow nsM, ⟨mb, nsLow nsB, same⟩, ⟨mc, nsLow l1, l2⟩⟩, fun b o z => of_hidT z, Nat.le_of_eq (hidT_size _ _), trivial, fun b z => absurd (show b ∈ ([] : List Addr) from z) (by simp), ok, .of_eq nog⟩
    refine codeAny_mono ((F _ kLow (nsLow nsM)).run callerA [] t H ⟨[.ref a], []⟩ [.ref a] [.ref a] _ _ ⟨room, rfl⟩ env (bd t (.ref a)) (.cons rfl .nil) (want H only sq)) fun res s2 z => ?_
    match res, z with
    | .error e, z => exact (noE H e s2 z).elim
    | .ok .next, z => exact z.elim
    | .ok .brk, z => exact z.elim
    | .ok .cont, z => exact z.elim
    | .ok (.ret u), z =>
      obtain ⟨v, H2, os, bare, un, ok2, rv, e⟩ := z
      have e2 : v = .bl true := e
      subst e2
      obtain rfl : u = Value.bool true := rv
      refine ⟨rfl, OldK.of_keep fun b o z => ?_, os, bare⟩
      cases q : H b with
      | none => exact un.keep b o z q (fun y => by have y2 : b ∈ ([] : List Addr) := y; simp at y2) (by simp)
      | some u2 =>
        rcases only b with y | ⟨ob, xs, y⟩
        · rw [q] at y; cases y
        · have z1 := (ok b _ y).1
          rw [z] at z1
          cases z1
          exact (ok2 b _ (un.frzs b _ _ y)).1
  cases look : K.lookup a with
  | some o =>
    have z := kin a o look
    rw [scr] at z
    cases z
    exact main (fun _ => none) (fun _ => .inl rfl) (.inr ⟨_, us.toArray, _, look, rfl, rfl, rfl, by rw [List.size_toArray, lenU]; exact sz, by simpa using rel⟩) (fun b u y => by have y2 : (none : Option HO) = some u := y; cases y2) (fun b y => (y rfl).elim) fun y => (y rfl).elim
  | none =>
    let H0 : Hp := fun b => if b = a then some (.frz { cls := .type "list", data := .seq us.toArray } (.lst (ns.map V.int))) else none
    have h0 : H0 a = some (.frz { cls := .type "list", data := .seq us.toArray } (.lst (ns.map V.int))) := if_pos rfl
    have h1 : ∀ b, b ≠ a → H0 b = none := fun b y => if_neg y
    refine main H0 (fun b => ?_) (.inl (.inr ⟨_, h0⟩)) (fun b u y => ?_) (fun b y => ?_) fun _ => look
    · by_cases z : b = a
      · subst z; exact .inr ⟨_, _, h0⟩
      · exact .inl (h1 b z)
    · by_cases z : b = a
      · subst z
        rw [h0] at y
        cases y
        exact ⟨scr, by rw [List.length_map]; exact sz, us, _, rel, scr⟩
      · rw [h1 b z] at y; cases y
    · by_cases z : b = a
      · exact z
      · exact (y (h1 b z)).elim
theorem walk_ofG {l : PySem.W.OpenLaw} {n k : Nat} {q : Program} {loose : List Str} {XP : (Str → Option Value) → Heap → Prop} {YP : World → Heap → Prop} {d : DefRec} {K : Params → PySem.W.Frag} {CX : CXT} {sp : PySem.W.Frag → Sp} {x : Str}
    (hn : l.most = some n) (hn2 : n ≤ sizeLine) (hdf : d.params.defaults = []) (hr : Room k callerA) (hY : ∀ (w : World) (h : Heap), YP w h → (K w.params).In h)
    (F : ∀ (w : World) (mg : Str → Option Value) (fa : Addr) (h : Heap), (K w.params).In h → h.Ns mainGlobals mg → XP mg h → mg d.name = some (.ref fa) →
      ∃ fd : FuncData, (∀ (s : Shared) (u : Value), BindsTo s fd ⟨[u], []⟩ [(x, u)]) ∧ ∀ base : Heap, (K w.params).In base → base.Ns mainGlobals mg → FnG l.prog w (K w.params) mg base CX k fa fd [x] (sp (K w.params)))
    (hsp : ∀ (K : PySem.W.Frag) (H : Hp) (a : Addr) (ns : List Int), ns.length ≤ n → Only H → SqL K H a (ns.map V.int) → sp K [.ref a] H (fun v _ => v = .bl true) fun _ _ _ => False)
    (hCX : ∀ (H : Hp) (s : Shared) (e : Value) (t : Shared), CX [] H s (fun _ _ _ => False) e t → False) : PySem.W.WalkO q loose XP YP l.row.toRowW d [] (fun f vs => PySem.call f vs) := by
  refine Att.attach_call hn hdf fun w t0 t1 mg mb fa o pm cd doc a us ns G Y ho hd hcd hmg scr isI hlen nog => ?_
  have kin := hY w _ Y
  obtain ⟨fd, bd, FF⟩ := F w mg fa _ kin G.T.g G.X hmg
  exact law_callG kin G.T.g G.T.b G.T.builtins G.T.nolimit nog scr isI (Nat.le_trans hlen hn2) hr FF bd (fun H only sq => hsp (K w.params) H a ns hlen only sq) fun H e t => hCX H t1 e t
end EB

/-! EB21: a dict comprehension with two for's. One lemma walks a clause, whichever of the two; it is used inside itself. -/
namespace EB
open PySem PySem.Spec PyProof.Rows L2 Evl
/-- what a turn has left to do where its tests said yes: the inner clause (at 0), or the entry's store -/
def Left (Y : Cx) (kx vx t0 i0 t1 i1 : Expr) (f0 f1 : List Expr) (scope : Scope) (pos : Pos) (D : Addr) : Nat → (Shared → Prop) → Shared → Prop
  | 0, N, s => wpAny (model Y.prog Y.w) Y.A (eval i1 Y.env) (fun x s1 => wpAny (model Y.prog Y.w) Y.A (pyIter x) (fun y s2 =>
      codeAny (model Y.prog Y.w) Y.A (.compStart (.DictComp kx vx [⟨t0, i0, f0, 0⟩, ⟨t1, i1, f1, 0⟩] scope pos) 1 y (.ref D) Y.env) (fun r s3 => (∃ f, r = .ok f) ∧ N s3) s2) (fun _ _ => False) s1) (fun _ _ => False) s
  | _ + 1, N, s => wpAny (model Y.prog Y.w) Y.A (eval kx Y.env) (fun u s1 => wpAny (model Y.prog Y.w) Y.A (eval vx Y.env) (fun v s2 => wpAny (model Y.prog Y.w) Y.A (dictSet D u v) (fun _ s3 => N s3) (fun _ _ => False) s2) (fun _ _ => False) s1) (fun _ _ => False) s
theorem lap {Y : Cx} {fp : List Addr} {it D : Addr} {tn : Nat → Heap → Prop} {J : It} {g : TG} {tt : TT} {kx vx t0 i0 t1 i1 t : Expr} {f0 f1 f : List Expr} {scope : Scope} {pos : Pos} {j : Nat} {R : Result → Shared → Prop} {pins : List (Addr × Obj)} {σ : L2.St} {vs : List Nat} {H : Hp} {s : Shared}
    {W : Nat → Nat → Hp → Prop} {B : (Hp → Prop) → L2.St → Hp → Prop} {Dn : Hp → Prop}
    (hj : (j = 0 ∧ t = t0 ∧ f = f0) ∨ (j = 1 ∧ t = t1 ∧ f = f1)) (hx : Y.xe = fun _ _ => False) (hc : Y.calm = true) (hs1 : ∀ x, foldedSetIterable i1 Y.env x = pure x)
    (T : Turn Y.prog Y.w Y.K t J fp it tn) (pg : PG Y t g) (pt : PTs Y f tt)
    (st : ∀ {σ' : L2.St} {H' : Hp} {s' : Shared}, Inv Y pins σ' H' s' → (∀ b ∈ fp, H' b = none) → ∀ b ∈ fp, FpOk Y pins H' b)
    (I : Inv Y pins σ H s) (h0 : tn 0 s.heap) (nf : ∀ b ∈ fp, H b = none) (w0 : ∃ m, W 0 m H)
    (turn : ∀ i m H, W i m H → (J.stop i H ∧ Dn H) ∨ (J.go i H ∧ ∃ Nx : Hp → Prop, (∀ H', Nx H' → ∃ m', m' < m ∧ W (i + 1) m' H') ∧ ∀ x H', J.yld i H x H' → g x σ H' fun σ2 H2 => wipe σ2 vs = σ ∧ tt σ2 H2 fun b H3 => if b = true then B Nx σ2 H3 else Nx H3))
    (out : ∀ H' s', Inv Y pins σ H' s' → Dn H' → R (.ok .next) s')
    (rest : ∀ (Nx : Hp → Prop) pl σ2 H3 s3, wipe σ2 vs = σ → Inv Y (pins ++ pl) σ2 H3 s3 → B Nx σ2 H3 →
      Left Y kx vx t0 i0 t1 i1 f0 f1 scope pos D j (fun s' => ∃ σ3 H', Inv Y (pins ++ pl) σ3 H' s' ∧ wipe σ3 vs = σ ∧ Nx H') s3) :
    codeAny (model Y.prog Y.w) Y.A (.compLoop (.DictComp kx vx [⟨t0, i0, f0, 0⟩, ⟨t1, i1, f1, 0⟩] scope pos) j (.ref it) (.ref D) Y.env) R s := by
  obtain ⟨m0, w0⟩ := w0
  refine codeAny_loop rfl (fun n s' => ∃ i H', Inv Y pins σ H' s' ∧ tn i s'.heap ∧ (∀ b ∈ fp, H' b = none) ∧ W i n H') (fun n s5 hI => ?_) m0 ⟨0, H, I, h0, nf, w0⟩
  obtain ⟨i, H5, I5, t5, n5, w5⟩ := hI
  show wpAny _ Y.A ((compTurn (.DictComp kx vx [⟨t0, i0, f0, 0⟩, ⟨t1, i1, f1, 0⟩] scope pos) j (.ref it) (.ref D) Y.env).onRaise _) _ _ s5
  refine wpAny_noted ?_
  -- the turn's end: the walk goes on from the slots it began with
  have on : ∀ {pl : List (Addr × Obj)} {σ3 : L2.St} {H' : Hp} {s' s7 : Shared} {Nx : Hp → Prop}, pl = pinsAt fp s7.heap → tn (i + 1) s7.heap → (∀ H', Nx H' → ∃ m', m' < n ∧ W (i + 1) m' H') → Inv Y (pins ++ pl) σ3 H' s' → wipe σ3 vs = σ → Nx H' → ∃ m, m < n ∧ ∃ i H', Inv Y pins σ H' s' ∧ tn i s'.heap ∧ (∀ b ∈ fp, H' b = none) ∧ W i m H' := by
    intro pl σ3 H' s' s7 Nx hp ht hN I' hw nx
    obtain ⟨m', lt, w'⟩ := hN H' nx
    have held : ∀ b ∈ fp, ∀ o, s7.heap.get? b = some o → s'.heap.get? b = some o ∧ H' b = none := fun b hb o e => by
      have z := I'.pin (b, o) (List.mem_append_right _ (List.mem_append_right _ (by rw [hp]; exact mem_pinsAt hb e)))
      exact ⟨z.1, z.2.1⟩
    refine ⟨m', lt, i + 1, H', I'.unpinned.weak (by rw [← hw, wipe_length]) (fun k v e => by rw [← hw] at e; exact (wipe_some e).1), T.keep _ _ _ ht fun b hb o e => (held b hb o e).1, fun b hb => ?_, w'⟩
    obtain ⟨o, e, _⟩ := T.obj _ _ ht b hb
    exact (held b hb o e).2
  unfold compTurn
  rcases hj with ⟨rfl, rfl, rfl⟩ | ⟨rfl, rfl, rfl⟩
  all_goals
    refine wpAny_bind (wpAny_standAt (wpAny_bind ?_))
    rcases turn i n H5 w5 with ⟨stop, dn⟩ | ⟨go, Nx, hN, step⟩
    · refine thnF (T.done Y rfl rfl rfl hc i pins s5 σ H5 (fun _ _ => False) I5 (st I5 n5) t5 stop) fun r s6 ⟨hr, I6⟩ => ?_
      subst hr
      exact wpAny_pure (out H5 s6 I6 dn)
    refine thnF (T.item Y rfl rfl rfl hc i pins s5 σ H5 (fun _ _ => False) I5 (st I5 n5) t5 go) fun r s6 ⟨u, hr, h6⟩ => ?_
    subst hr
    refine wpAny_bind (thnF h6 fun _ s7 ⟨x, H7, I7, r7, y7, t7, n7⟩ => ?_)
    have Ip := I7.pinned (st I7 n7) (T.obj _ _ t7)
    have pgr := pg.run _ s7 σ H7 x u _ Ip r7 (step x H7 y7)
    rw [hx] at pgr
    refine wpAny_bind (thnF pgr fun _ s8 ⟨σ8, H8, I8, hw, q8⟩ => ?_)
    have ptr := pt.run _ s8 σ8 H8 _ I8 q8
    rw [hx] at ptr
    refine wpAny_bind (thnF ptr fun b s9 ⟨H9, I9, q9⟩ => ?_)
    cases b with
    | false => exact wpAny_pure ⟨rfl, on rfl t7 hN I9 hw q9⟩
    | true =>
      have l := rest Nx _ σ8 H9 s9 hw I9 q9
      first
        | (refine wpAny_bind (thnF l fun x s10 l1 => wpAny_bind (wpAny_standAt (wpAny_bind (wpAny_of_eq (hs1 x) (wpAny_bind (wpAny_holding (thnF l1 fun y s11 l2 => wpAny_bind (wpAny_runOwn ?_))))))))
           rw [Around.mark_none]
           refine codeAny_mono l2 fun r s12 ⟨⟨fl, hr⟩, σ3, H', I3, hw3, nx⟩ => ?_
           subst hr
           exact wpAny_pure ⟨rfl, on rfl t7 hN I3 hw3 nx⟩)
        | exact wpAny_bind (wpAny_bind (thnF l fun kv s10 l1 => wpAny_bind (wpAny_holding (thnF l1 fun vv s11 l2 => wpAny_bind (wpAny_standAt (wpAny_holding (thnF l2 fun _ s12 ⟨σ3, H', I3, hw3, nx⟩ => wpAny_pure ⟨rfl, on rfl t7 hN I3 hw3 nx⟩)))))))
theorem wipe_two {σ : L2.St} {vs ws : List Nat} (h : ∀ i ∈ ws, i ∈ vs) : wipe (wipe σ ws) vs = wipe σ vs := by
  refine List.ext_getElem? fun i => ?_
  by_cases hi : i ∈ vs
  · by_cases hl : i < σ.length
    · rw [wipe_in hi (by rw [wipe_length]; exact hl), wipe_in hi hl]
    · rw [List.getElem?_eq_none (by rw [wipe_length, wipe_length]; omega), List.getElem?_eq_none (by rw [wipe_length]; omega)]
  · rw [wipe_out hi, wipe_out hi, wipe_out fun z => hi (h i z)]
/-- the inner clause begins: its iterator is asked once more for itself, or is not -/
theorem inner_begins {prog : Program} {w : World} {A : Around} {R : Result → Shared → Prop} {s : Shared} {kx vx : Expr} {c0 c1 : Comprehension} {scope : Scope} {pos : Pos} {it acc : Value} {env : Env} (h1 : c1.is_async = 0)
    (a : codeAny (model prog w) A (.compLoop (.DictComp kx vx [c0, c1] scope pos) 1 it acc env) R s)
    (b : wpAny (model prog w) A (pyIter it) (fun y s' => codeAny (model prog w) A (.compLoop (.DictComp kx vx [c0, c1] scope pos) 1 y acc env) R s') (fun _ _ => False) s) :
    codeAny (model prog w) A (.compStart (.DictComp kx vx [c0, c1] scope pos) 1 it acc env) R s := by
  refine codeAny_of_tree ?_
  show wpAny _ _ ((compStart (.DictComp kx vx [c0, c1] scope pos) 1 it acc env).onRaise _) _ _ s
  refine wpAny_notedAt ?_
  obtain ⟨t1, i1, f1, n1⟩ := c1
  obtain rfl : n1 = 0 := h1
  unfold compStart
  show wpAny _ _ (ask >>= _) _ _ s
  refine wpAny_bind (wpAny_askSetting (wpAny_ite ?_))
  split
  · first
      | exact wpAny_bind (wpAny_pure (wpAny_pure ⟨rfl, a⟩))
      | exact wpAny_pure ⟨rfl, a⟩
  · refine wpAny_bind (wpAny_rule ?_)
    first
      | exact wpAny_bind (wpAny_standAt (wpAny_bind (thnF b fun y s' h => wpAny_pure ⟨rfl, h⟩)))
      | (show wpAny _ _ (standAt i1.pos >>= _) _ _ s; exact wpAny_bind (wpAny_standAt (wpAny_bind (thnF b fun y s' h => wpAny_pure ⟨rfl, h⟩))))
/-- {key: value for .. in .. if .. for .. in .. if ..}: the outer walk, in each of its turns the inner one; D is the dict -/
def walkIn (wi1 : TI) (g1 : TG) (tt1 : TT) (tk tv : TE) (ws : List Nat) (D : Addr) (Nx : Hp → Prop) (σ : L2.St) (H : Hp) : Prop :=
  wi1 σ H fun J H1 => ∃ W : Nat → Nat → Hp → Prop, (∃ m, W 0 m H1) ∧ ∀ j m H, W j m H → (J.stop j H ∧ Nx H) ∨ (J.go j H ∧ ∃ Ny : Hp → Prop, (∀ H', Ny H' → ∃ m', m' < m ∧ W (j + 1) m' H') ∧
    ∀ x H', J.yld j H x H' → g1 x (wipe σ ws) H' fun σ2 H2 => wipe σ2 ws = wipe σ ws ∧ tt1 σ2 H2 fun b H3 =>
      if b = true then tk σ2 H3 fun y H4 => tv σ2 H4 fun z H5 => ∃ kvs k, y = kV k ∧ H5 D = some (.dK kvs) ∧ kvs.length < sizeLine ∧ Ny (upd H5 D (.dK (putK kvs k z))) else Ny H3)
def tDc2 (wi : TI) (g : TG) (tt : TT) (wi1 : TI) (g1 : TG) (tt1 : TT) (tk tv : TE) (vs ws : List Nat) : TE := fun σ H Q =>
  wi σ H fun J H1 => ∀ D, H1 D = none → ∃ W : Nat → Nat → Hp → Prop, (∃ m, W 0 m (upd H1 D (.dK []))) ∧ ∀ i m H, W i m H → (J.stop i H ∧ Q (.ref D) H) ∨ (J.go i H ∧ ∃ Nx : Hp → Prop, (∀ H', Nx H' → ∃ m', m' < m ∧ W (i + 1) m' H') ∧
    ∀ x H', J.yld i H x H' → g x (wipe σ vs) H' fun σ2 H2 => wipe σ2 vs = wipe σ vs ∧ tt σ2 H2 fun b H3 => if b = true then walkIn wi1 g1 tt1 tk tv ws D Nx σ2 H3 else Nx H3)
/-- both clauses, in the block's own context -/
theorem laps {Y : Cx} {fp : List Addr} {it D : Addr} {tn : Nat → Heap → Prop} {J : It} {wi1 : TI} {g g1 : TG} {tt tt1 : TT} {tk tv : TE} {kx vx t0 i0 t1 i1 : Expr} {f0 f1 : List Expr} {scope : Scope} {pos : Pos} {R : Result → Shared → Prop} {σ : L2.St} {vs ws : List Nat} {H : Hp} {s : Shared} {W : Nat → Nat → Hp → Prop} {Dn : Hp → Prop}
    (hx : Y.xe = fun _ _ => False) (hc : Y.calm = true) (hs1 : ∀ x, foldedSetIterable i1 Y.env x = pure x) (hw : ∀ i ∈ ws, i ∈ vs)
    (T : Turn Y.prog Y.w Y.K t0 J fp it tn) (pg : PG Y t0 g) (pt : PTs Y f0 tt) (pi : PI Y t1 i1 wi1) (pg1 : PG Y t1 g1) (pt1 : PTs Y f1 tt1) (pk : PE Y kx tk) (pv : PE Y vx tv)
    (st : ∀ {σ' : L2.St} {H' : Hp} {s' : Shared}, Inv Y [] σ' H' s' → (∀ b ∈ fp, H' b = none) → ∀ b ∈ fp, FpOk Y [] H' b)
    (I : Inv Y [] (wipe σ vs) H s) (h0 : tn 0 s.heap) (nf : ∀ b ∈ fp, H b = none) (w0 : ∃ m, W 0 m H)
    (turn : ∀ i m H, W i m H → (J.stop i H ∧ Dn H) ∨ (J.go i H ∧ ∃ Nx : Hp → Prop, (∀ H', Nx H' → ∃ m', m' < m ∧ W (i + 1) m' H') ∧ ∀ x H', J.yld i H x H' → g x (wipe σ vs) H' fun σ2 H2 => wipe σ2 vs = wipe σ vs ∧ tt σ2 H2 fun b H3 => if b = true then walkIn wi1 g1 tt1 tk tv ws D Nx σ2 H3 else Nx H3))
    (out : ∀ H' s', Inv Y [] (wipe σ vs) H' s' → Dn H' → R (.ok .next) s') :
    codeAny (model Y.prog Y.w) Y.A (.compLoop (.DictComp kx vx [⟨t0, i0, f0, 0⟩, ⟨t1, i1, f1, 0⟩] scope pos) 0 (.ref it) (.ref D) Y.env) R s := by
  refine lap (B := fun Nx σ2 H3 => walkIn wi1 g1 tt1 tk tv ws D Nx σ2 H3) (.inl ⟨rfl, rfl, rfl⟩) hx hc hs1 T pg pt st I h0 nf w0 turn out ?_
  intro Nx pl σ2 H3 s3 e2 I3 hb
  have r := pi.run _ s3 σ2 H3 _ I3 hb
  rw [hx] at r
  refine thnF r fun x s4 h4 => thnF h4 fun y s5 ⟨it1, fp1, tn1, J1, H5, e, I5, T1, z5, f5, W1, w1, turn1⟩ => ?_
  subst e
  have go : codeAny (model Y.prog Y.w) Y.A (.compLoop (.DictComp kx vx [⟨t0, i0, f0, 0⟩, ⟨t1, i1, f1, 0⟩] scope pos) 1 (.ref it1) (.ref D) Y.env) (fun r s3 => (∃ f, r = .ok f) ∧ ∃ σ3 H', Inv Y ([] ++ pl) σ3 H' s3 ∧ wipe σ3 vs = wipe σ vs ∧ Nx H') s5 := by
    refine lap (vs := ws) (B := fun Ny σ4 H4 => tk σ4 H4 fun y H6 => tv σ4 H6 fun z H7 => ∃ kvs k, y = kV k ∧ H7 D = some (.dK kvs) ∧ kvs.length < sizeLine ∧ Ny (upd H7 D (.dK (putK kvs k z)))) (.inr ⟨rfl, rfl, rfl⟩) hx hc hs1 T1 pg1 pt1
      (fun _ hn b hb => ⟨hn b hb, (f5 b hb).2⟩) (I5.weak (wipe_length _ _) fun j v e => (wipe_some e).1) z5 (fun b hb => (f5 b hb).1) w1 turn1
      (fun H' s' I' nx => ⟨⟨_, rfl⟩, wipe σ2 ws, H', I', (wipe_two hw).trans e2, nx⟩) ?_
    intro Ny pm σ4 H4 s6 e4 I6 q6
    have rk := pk.run _ s6 σ4 H4 _ I6 q6
    rw [hx] at rk
    refine thnF rk fun u s7 ⟨yk, H7, I7, r7, q7⟩ => ?_
    have rv := pv.run _ s7 σ4 H7 _ I7 q7
    rw [hx] at rv
    refine thnF rv fun v s8 ⟨yv, H8, I8, r8, kvs, k, ek, hD, hz, ny⟩ => ?_
    subst ek
    exact d_dictSet I8 hD hz r7 r8 fun s9 I9 => ⟨σ4, _, I9, e4, ny⟩
  exact inner_begins rfl go (T1.self Y.A 0 _ _ _ z5 go)
theorem pe_dc2 {X : Cx} {kx vx t0 i0 t1 i1 : Expr} {f0 f1 : List Expr} {scope : Scope} {own : List (Str × Nat)} {ws : List Nat} {pos : Pos} {wi wi1 : TI} {g g1 : TG} {tt tt1 : TT} {tk tv : TE} (hc : X.calm = true) (hN : X.N.Nodup) (hi : PI X t0 i0 wi) (ok : BlkOk X.N X.env.scope scope own) (hv : ∀ i ∈ ws, i ∈ own.map (·.2))
    (hg : ∀ (s : Shared) (H : Hp) (C : Addr) (cl : List (Str × Addr)) (fp : List Addr), PG (X.blk s H scope (compEnvC scope cl C X.env) fp) t0 g)
    (ht : ∀ (s : Shared) (H : Hp) (C : Addr) (cl : List (Str × Addr)) (fp : List Addr), PTs (X.blk s H scope (compEnvC scope cl C X.env) fp) f0 tt)
    (hi1 : ∀ (s : Shared) (H : Hp) (C : Addr) (cl : List (Str × Addr)) (fp : List Addr), PI (X.blk s H scope (compEnvC scope cl C X.env) fp) t1 i1 wi1)
    (hg1 : ∀ (s : Shared) (H : Hp) (C : Addr) (cl : List (Str × Addr)) (fp : List Addr), PG (X.blk s H scope (compEnvC scope cl C X.env) fp) t1 g1)
    (ht1 : ∀ (s : Shared) (H : Hp) (C : Addr) (cl : List (Str × Addr)) (fp : List Addr), PTs (X.blk s H scope (compEnvC scope cl C X.env) fp) f1 tt1)
    (hk : ∀ (s : Shared) (H : Hp) (C : Addr) (cl : List (Str × Addr)) (fp : List Addr), PE (X.blk s H scope (compEnvC scope cl C X.env) fp) kx tk)
    (he : ∀ (s : Shared) (H : Hp) (C : Addr) (cl : List (Str × Addr)) (fp : List Addr), PE (X.blk s H scope (compEnvC scope cl C X.env) fp) vx tv)
    (hs : ∀ x, foldedSetIterable i0 X.env x = pure x := by intro _; rfl) (hs1 : ∀ env x, foldedSetIterable i1 env x = pure x := by intro _ _; rfl) :
    PE X (.DictComp kx vx [⟨t0, i0, f0, 0⟩, ⟨t1, i1, f1, 0⟩] scope pos) (tDc2 wi g tt wi1 g1 tt1 tk tv (own.map (·.2)) ws) := by
  refine ⟨fun pins s σ H Q I h => ?_⟩
  rw [arm_eval_DictComp]
  have hfree : ∀ y ∈ scope.names, y.2 = .free → ∃ c, X.env.cells.lookup y.1 = some c := fun y hy e => (ok.free y hy e).elim (fun k => I.ok.has _ (.inl k)) fun k => I.ok.has _ (.inr k)
  refine wpAny_comprehension_free (use := none) rfl hs (closure_ok hfree) ok.kind (fun y hy e => by rw [ok.uniq y hy, e]) (thn (hi.run pins s σ H _ I h) fun xv s1 hx => thn hx fun itv s2 h2 => ?_)
  obtain ⟨it, fp, tn, J, H2, e, I2, T, st2, f2, q⟩ := h2
  subst e
  refine wpAny_newObj_type (newEnv_comp ?_)
  generalize hD : s2.heap.objs.size = D
  have hDn : H2 D = none := I2.hok.fresh (Nat.le_of_eq hD)
  obtain ⟨W, w0, turn⟩ := q D hDn
  generalize hs3 : ({ s2 with heap := s2.heap.push { cls := .type "dict", data := .dict #[] } } : Shared) = s3
  have h3 : s3.heap = s2.heap.push { cls := .type "dict", data := .dict #[] } := by rw [← hs3]
  have I3 : Inv X pins σ (upd H2 D (.dK [])) s3 := by
    rw [← hs3]
    exact I2.laid (t' := s2.toks) (fun b o e => Heap.get?_push_of_some _ e) (Nat.le_of_eq hD) (by rw [← hD]; exact dk_empty s2.heap I2.big)
  have f3 : ∀ b ∈ fp, FpOk X pins (upd H2 D (.dK [])) b ∧ b < s3.heap.objs.size := fun b hb => by
    obtain ⟨o, e, _⟩ := T.obj _ _ st2 b hb
    have lt : b < s2.heap.objs.size := Heap.lt_size e
    exact ⟨⟨by rw [upd_ne (by rw [← hD]; exact Nat.ne_of_lt lt)]; exact (f2 b hb).1, (f2 b hb).2⟩, by rw [h3, Heap.size_push]; exact Nat.lt_succ_of_lt lt⟩
  have I4 := block_start I3 ok hN f3
  generalize hL : s3.heap.objs.size = L at I4
  generalize hcl : cellsFrom (L + 1) scope.names (cloFrom X.env.cells scope.names []) = cl at I4
  have nfp : ∀ b ∈ fp, (upd H2 D (.dK [])) b = none := fun b hb => (f3 b hb).1.1
  have st4 : tn 0 (pushCells (s3.heap.push { cls := .type "dict", data := .dict #[] }) scope.names) := T.keep _ _ _ st2 fun b _ o e => pushCells_keeps _ _ _ _ (Heap.get?_push_of_some _ (by rw [h3]; exact Heap.get?_push_of_some _ e))
  have own' : ∀ {σ' : L2.St} {H' : Hp} {s' : Shared}, Inv (X.blk s3 (upd H2 D (.dK [])) scope (compEnvC scope cl L X.env) fp) [] σ' H' s' → (∀ b ∈ fp, H' b = none) → ∀ b ∈ fp, FpOk (X.blk s3 (upd H2 D (.dK [])) scope (compEnvC scope cl L X.env) fp) [] H' b := fun I' hn b hb =>
    ⟨hn b hb, (I'.ok.exf b hb).1, I'.ok.exfs b hb, .inl hb, fun x c e => (I'.ok.exf b hb).2 x c e, fun p hp => absurd (show p ∈ ([] : List (Addr × Obj)) ++ [] from hp) (by simp)⟩
  have go := laps (Y := X.blk s3 (upd H2 D (.dK [])) scope (compEnvC scope cl L X.env) fp) (kx := kx) (vx := vx) (i0 := i0) (scope := scope) (pos := pos) (D := D) (R := compPost (model X.prog X.w) X.A X.xe none (EP X pins σ Q) (.ref D) L) (Dn := Q (.ref D)) rfl hc (hs1 _) hv T (hg _ _ _ _ _) (ht _ _ _ _ _) (hi1 _ _ _ _ _) (hg1 _ _ _ _ _) (ht1 _ _ _ _ _) (hk _ _ _ _ _) (he _ _ _ _ _) own' I4 st4 nfp w0 turn (fun H' s' I6 q => by
    have I7 : Inv X pins σ H' s' := I3.call' (ch := fp) I6.os I6.base I6.hok I6.bare fun b hb => let z := (f3 b hb).1; ⟨z.2.2.2.1, z.2.1, z.2.2.2.2.1, z.2.2.2.2.2⟩
    obtain ⟨m, hn, _⟩ := I6.loc
    obtain ⟨f0, f1, _, f3', f4, _⟩ := I3.fpOk (b := L) (Nat.le_of_eq hL) (show H' L = none from I6.free)
    exact ⟨m, hn, fun h'' sb => ⟨.ref D, H', I7.turned (t' := s'.toks) (fun b o hb e => (sb.2 b hb).trans e) f0 f1 f3' f4 (by assumption), rfl, q⟩⟩)
  exact codeAny_compStart_dict go (T.self X.A 0 _ _ _ st4 go)
end EB

/-! EB22: dicts of ints as what is known of a value; while over a list of one's own; tuples of what is known; lists of one's own read on the way. -/
namespace EB
open PySem PySem.Spec PyProof.Rows L2 Evl
/-! ### a dict of ints -/
def ent (p : Int × Int) : Key × V := (.inl p.1, .int p.2)
def mp (es : List (Int × Int)) : PV := ⟨fun H v => ∃ a, v = .ref a ∧ H a = some (.dK (es.map ent)), fun e h => by
  obtain ⟨a, h1, h2⟩ := h
  exact ⟨a, h1, e _ _ h2⟩⟩
theorem valV_off {k : Int} : ∀ {es : List (Int × Int)}, k ∉ es.map (·.1) → valV (es.map ent) (.inl k : Key) = none
  | [], _ => rfl
  | p :: r, h => by
    have h1 : ¬ k = p.1 := fun z => h (List.mem_cons.mpr (.inl z))
    have h2 : k ∉ r.map (·.1) := fun z => h (List.mem_cons.mpr (.inr z))
    rw [List.map_cons, valV_neg (p := ent p) (fun z => h1 (Sum.inl.inj z).symm)]
    exact valV_off h2
theorem valV_on {k v : Int} : ∀ {es : List (Int × Int)}, (es.map (·.1)).Nodup → (k, v) ∈ es → valV (es.map ent) (.inl k : Key) = some (.int v)
  | p :: r, hn, hm => by
    rw [List.map_cons]
    obtain ⟨n1, n2⟩ := List.nodup_cons.mp hn
    rcases List.mem_cons.mp hm with z | z
    · subst z
      exact valV_pos rfl
    · have : ¬ (ent p).1 = (.inl k : Key) := fun y => by
        have e : p.1 = k := Sum.inl.inj y
        exact n1 (List.mem_map.mpr ⟨_, z, e.symm⟩)
      rw [valV_neg this]
      exact valV_on n2 z
structure AccD (D : Addr) (F1 H1 F H : Hp) (es : List (Int × Int)) : Prop where
  gr : Gr F1 H1 F H
  off : F D = none
  at_ : H D = some (.dK (es.map ent))
theorem AccD.start {D : Addr} {F H : Hp} (fh : Ex F H) (hD : H D = none) : AccD D F H F (upd H D (.dK [])) [] := ⟨gr_mut (Gr.refl fh) hD (fresh_back fh hD), fresh_back fh hD, upd_same⟩
theorem AccD.step {D : Addr} {F1 H1 F H F2 H2 : Hp} {es : List (Int × Int)} (a : AccD D F1 H1 F H es) (g : Gr F H F2 H2) : AccD D F1 H1 F2 H2 es :=
  ⟨a.gr.trans g, g.nw D (by rw [a.at_]; exact fun z => nomatch z) a.off, g.hh _ _ a.at_⟩
theorem AccD.put {D : Addr} {F1 H1 F H : Hp} {es : List (Int × Int)} {p : Int × Int} (a : AccD D F1 H1 F H es) (h1 : H1 D = none) (hn : p.1 ∉ es.map (·.1)) : AccD D F1 H1 F (upd H D (.dK (putK (es.map ent) (.inl p.1) (.int p.2)))) (es ++ [p]) := by
  refine ⟨gr_mut a.gr h1 a.off, a.off, ?_⟩
  rw [putK_new _ (valV_off hn), List.map_append, upd_same]
  rfl
theorem AccD.done {D : Addr} {F1 H1 F H : Hp} {es : List (Int × Int)} (a : AccD D F1 H1 F H es) (h1 : H1 D = none) : ∃ F', Gr F1 H1 F' H ∧ (mp es).p F' (.ref D) :=
  ⟨upd F D (.dK (es.map ent)), gr_in a.gr h1 a.off a.at_, D, rfl, upd_same⟩
section
variable {K : PySem.W.Frag} {M : EC → Addr} {W : WX} {ps qs : Kn} {te ta tb td ty tk tv : TE} {t u : TT} {ts tu : TS} {tr : TA} {vs ws : List Nat} {r : Res}
/-- {k: v for x in .. for y in those of x if b}, the first clause without a test, no key twice -/
theorem je_dc2 {α β : Type} {wi wi1 : TI} {g g1 : TG} (xs : List α) (ys : α → List β) (enc : α → PyData) (enc1 : β → PyData) (b : α → β → Bool) (e : α → β → Int × Int) {W' : WX} (hi : JI K M W wi ps (xs.map enc))
    (hlen : (xs.flatMap fun x => ((ys x).filter (b x)).map (e x)).length ≤ 90000) (hnd : ((xs.flatMap fun x => ((ys x).filter (b x)).map (e x)).map (·.1)).Nodup)
    (hs : ∀ x ∈ xs, ∃ qs, JG vs g (wipeK ps vs) (dv K (enc x)) qs ∧ JT K M W' t qs true ∧ JI K M W' wi1 qs ((ys x).map enc1) ∧
      ∀ y ∈ ys x, ∃ rs, JG ws g1 (wipeK qs ws) (dv K (enc1 y)) rs ∧ JT K M W' u rs (b x y) ∧ (b x y = true → JD K M W' tk rs (.int (e x y).1) ∧ JD K M W' tv rs (.int (e x y).2))) :
    JV K M W (tDc2 wi g t wi1 g1 u tk tv vs ws) ps (mp (xs.flatMap fun x => ((ys x).filter (b x)).map (e x))) := fun σ F H Q fh S k => hi σ F H _ fh S fun J F1 H1 e1 it D hD => by
  let out : α → List (Int × Int) := fun x => ((ys x).filter (b x)).map (e x)
  refine ⟨fun i n H' => n = xs.length - i ∧ i ≤ xs.length ∧ ∃ F', AccD D F1 H1 F' H' ((xs.take i).flatMap out), ⟨xs.length, by omega, Nat.zero_le _, F1, AccD.start e1.fh hD⟩, ?_⟩
  rintro i n H' ⟨rfl, him, F2, A⟩
  by_cases hlt : i < xs.length
  · have hx : xs[i]? = some xs[i] := List.getElem?_eq_getElem hlt
    have hmem : xs[i] ∈ xs := List.getElem_mem hlt
    have hex : (xs.map enc)[i]? = some (enc xs[i]) := by rw [List.getElem?_map, hx] <;> rfl
    have cut : xs.flatMap out = (xs.take i).flatMap out ++ (out xs[i] ++ (xs.drop (i + 1)).flatMap out) := by
      conv => lhs; rw [← List.take_append_drop i xs, List.drop_eq_getElem_cons hlt]
      rw [List.flatMap_append, List.flatMap_cons]
    refine .inr ⟨it.go i H' (A.gr.ff.trans A.gr.fh) (by rw [List.length_map]; exact hlt), fun H3 => ∃ F3, AccD D F1 H1 F3 H3 ((xs.take (i + 1)).flatMap out), fun H3 q => ⟨xs.length - (i + 1), by omega, rfl, hlt, q⟩, fun x H3 y => ?_⟩
    obtain ⟨F3, e3, dx⟩ := it.yld i _ F2 H' x H3 A.gr.ff A.gr.fh hex y
    have A3 := A.step e3
    obtain ⟨qs, hg, ht, hi1, hin⟩ := hs xs[i] hmem
    refine hg x (wipe σ vs) F3 H3 _ e3.fh ((S.mono (e1.ff.trans A3.gr.ff)).wipe vs) dx fun σ4 F4 H4 e4 S4 u4 => ⟨wipe_upto (upto_wipe.trans u4), ht σ4 F4 H4 _ e4.fh S4 fun F5 H5 e5 => ?_⟩
    have A5 := (A3.step e4).step e5
    rw [if_pos rfl]
    refine hi1 σ4 F5 H5 _ e5.fh (S4.mono e5.ff) fun J1 F6 H6 e6 it1 => ?_
    have A6 := A5.step e6
    refine ⟨fun j n H' => n = (ys xs[i]).length - j ∧ j ≤ (ys xs[i]).length ∧ ∃ F', Ex F6 F' ∧ AccD D F1 H1 F' H' ((xs.take i).flatMap out ++ (((ys xs[i]).take j).filter (b xs[i])).map (e xs[i])), ⟨(ys xs[i]).length, by omega, Nat.zero_le _, F6, Ex.refl _, by simpa using A6⟩, ?_⟩
    rintro j n H7 ⟨rfl, hj, F7, x67, A7⟩
    by_cases hjl : j < (ys xs[i]).length
    · have hy : (ys xs[i])[j]? = some (ys xs[i])[j] := List.getElem?_eq_getElem hjl
      have ymem : (ys xs[i])[j] ∈ ys xs[i] := List.getElem_mem hjl
      have hey : ((ys xs[i]).map enc1)[j]? = some (enc1 (ys xs[i])[j]) := by rw [List.getElem?_map, hy] <;> rfl
      refine .inr ⟨it1.go j H7 (x67.trans A7.gr.fh) (by rw [List.length_map]; exact hjl), fun H8 => ∃ F8, Ex F6 F8 ∧ AccD D F1 H1 F8 H8 ((xs.take i).flatMap out ++ (((ys xs[i]).take (j + 1)).filter (b xs[i])).map (e xs[i])), fun H8 q => ⟨(ys xs[i]).length - (j + 1), by omega, rfl, hjl, q⟩, fun x1 H8 y1 => ?_⟩
      obtain ⟨F8, e8, dy⟩ := it1.yld j _ F7 H7 x1 H8 x67 A7.gr.fh hey y1
      have A8 := A7.step e8
      obtain ⟨rs, hg1, ht1, he1⟩ := hin _ ymem
      refine hg1 x1 (wipe σ4 ws) F8 H8 _ e8.fh ((S4.mono ((e5.ff.trans e6.ff).trans (x67.trans e8.ff))).wipe ws) dy fun σ9 F9 H9 e9 S9 u9 => ⟨wipe_upto (upto_wipe.trans u9), ht1 σ9 F9 H9 _ e9.fh S9 fun Fa Ha ea => ?_⟩
      have Aa := (A8.step e9).step ea
      have ff := filter_take_succ (b := b xs[i]) hy
      have rest : ∃ more, xs.flatMap out = (xs.take i).flatMap out ++ (((ys xs[i]).take (j + 1)).filter (b xs[i])).map (e xs[i]) ++ more := by
        refine ⟨(((ys xs[i]).drop (j + 1)).filter (b xs[i])).map (e xs[i]) ++ (xs.drop (i + 1)).flatMap out, ?_⟩
        rw [cut]
        have : out xs[i] = (((ys xs[i]).take (j + 1)).filter (b xs[i])).map (e xs[i]) ++ (((ys xs[i]).drop (j + 1)).filter (b xs[i])).map (e xs[i]) := by
          rw [← List.map_append, ← List.filter_append, List.take_append_drop]
        rw [this]
        simp only [List.append_assoc]
      obtain ⟨more, rest⟩ := rest
      cases hb : b xs[i] (ys xs[i])[j] with
      | true =>
        rw [hb] at ff
        rw [if_pos rfl]
        obtain ⟨hk1, hv1⟩ := he1 hb
        refine hk1.go ea.fh (S9.mono ea.ff) fun v1 Fb Hb eb p1 => hv1.go eb.fh ((S9.mono ea.ff).mono eb.ff) fun v2 Fc Hc ec p2 => ?_
        have Ac := (Aa.step eb).step ec
        rw [dp_int p1, dp_int p2]
        rw [ff, if_pos rfl, List.map_append, ← List.append_assoc] at rest
        have hn2 := hnd
        have hl2 := hlen
        rw [show (xs.flatMap fun x => ((ys x).filter (b x)).map (e x)) = xs.flatMap out from rfl, rest] at hn2 hl2
        refine ⟨_, .inl (e xs[i] (ys xs[i])[j]).1, rfl, Ac.at_, ?_, Fc, ((x67.trans e8.ff).trans e9.ff).trans ((ea.ff.trans eb.ff).trans ec.ff), ?_⟩
        · refine sz_lt ?_
          rw [List.length_map]
          simp only [List.length_append] at hl2 ⊢
          omega
        · have eq : (xs.take i).flatMap out ++ (((ys xs[i]).take (j + 1)).filter (b xs[i])).map (e xs[i]) = (xs.take i).flatMap out ++ (((ys xs[i]).take j).filter (b xs[i])).map (e xs[i]) ++ [e xs[i] (ys xs[i])[j]] := by
            rw [ff, if_pos rfl, List.map_append, List.append_assoc]
            rfl
          rw [eq]
          refine Ac.put hD fun z => ?_
          rw [List.map_append, List.map_append] at hn2
          have hd := (List.nodup_append.mp (List.nodup_append.mp hn2).1).2.2
          exact hd _ z _ (by simp) rfl
      | false =>
        rw [hb] at ff
        rw [if_neg (by decide)]
        show ∃ F8, Ex F6 F8 ∧ AccD D F1 H1 F8 Ha _
        rw [ff]
        simp only [Bool.false_eq_true, if_false, List.append_nil]
        exact ⟨Fa, ((x67.trans e8.ff).trans e9.ff).trans ea.ff, Aa⟩
    · have hem : j = (ys xs[i]).length := by omega
      subst hem
      rw [List.take_length] at A7
      refine .inl ⟨it1.stop _ H7 (x67.trans A7.gr.fh) (by rw [List.length_map]; exact Nat.le_refl _), F7, ?_⟩
      rw [flatMap_take_succ hx]
      exact A7
  · have hem : i = xs.length := by omega
    subst hem
    rw [List.take_length] at A
    obtain ⟨F3, g3, d3⟩ := A.done hD
    exact .inl ⟨it.stop _ H' (A.gr.ff.trans A.gr.fh) (by rw [List.length_map]; exact Nat.le_refl _), k _ F3 H' (e1.trans g3) d3⟩
/-- len(d), list(d), d[k] -/
def rLenD : List V → Hp → VK → Prop := fun xs H Q => ∃ a kvs, xs = [V.ref a] ∧ H a = some (.dK kvs) ∧ Q (.int kvs.length) H
theorem call_lenD1 {X : Cx} : CallR X (.builtin "len") rLenD := call_lenD
theorem je_lenM {es : List (Int × Int)} (h : JV K M W te ps (mp es)) : JD K M W (tCB rLenD (tCons te tNil)) ps (.int es.length) := je_cb (ja_cons h ja_nil) fun vs F H fh b Q k => by
  obtain ⟨v, rfl, p⟩ := allP1 b
  obtain ⟨a, rfl, ha⟩ := p
  refine ⟨a, _, rfl, fh _ _ ha, ?_⟩
  rw [List.length_map]
  exact k _ F H (Gr.refl fh) (.int _)
theorem je_listM {es : List (Int × Int)} (h : JV K M W te ps (mp es)) : JD K M W (tCB rListD (tCons te tNil)) ps (.list ((es.map (·.1)).map .int)) := je_cb (ja_cons h ja_nil) fun vs F H fh b Q k => by
  obtain ⟨v, rfl, p⟩ := allP1 b
  obtain ⟨a, rfl, ha⟩ := p
  refine ⟨a, _, rfl, fh _ _ ha, fun q hq => k _ _ _ (Gr.new fh hq) (.lst (sq_of upd_same) ?_)⟩
  have : ((es.map ent).map fun kv => kV kv.1) = (es.map (·.1)).map V.int := by
    rw [List.map_map, List.map_map]
    rfl
  rw [this]
  exact dpAll_ints _
theorem je_dget {es : List (Int × Int)} {k v : Int} (hd : JV K M W td ps (mp es)) (hk : JD K M W ty ps (.int k)) (hn : (es.map (·.1)).Nodup) (hm : (k, v) ∈ es) : JD K M W (tDGet td ty) ps (.int v) := fun σ F H Q fh S kk =>
  hd.go fh S fun x F1 H1 e1 p => hk.go e1.fh (S.mono e1.ff) fun y F2 H2 e2 q => by
    obtain ⟨a, rfl, ha⟩ := p
    refine ⟨a, .int v, rfl, ?_, kk _ F2 H2 (e1.trans e2) (.int v)⟩
    have := DGet.k (H := H2) (a := a) (k := .inl k) (e2.hh _ _ (e1.fh _ _ ha))
    rw [dp_int q, ← valV_on hn hm]
    exact this
/-! ### while -/
theorem jl_while {D : Addr} {F1 H1 : Hp} {i : Nat} {ds : List PyData} (m : Nat) (l : Nat → List PyData) (hi : ps[i]? = some (some (xv (.ref D)))) (h0 : l 0 = ds)
    (ht : ∀ j, j ≤ m → JT K M W t (ps.set i (some (dv K (.list (l j))))) (decide (j < m))) (hb : ∀ j, j < m → JL K M W D F1 H1 ts ps (l j) (.nx ps (l (j + 1)))) : JL K M W D F1 H1 (tWhile t ts) ps ds (.nx ps (l m)) := fun Dn σ F H A S k => by
  refine ⟨fun n σ' H' => ∃ j F', n = m - j ∧ j ≤ m ∧ Acc K D F1 H1 F' H' (l j) ∧ Ex F F' ∧ Sl F' σ' ps, ⟨m, 0, F, by omega, Nat.zero_le _, by rw [h0]; exact A, Ex.refl _, S⟩, ?_⟩
  rintro n σ' H' ⟨j, F', rfl, hj, A', e', S'⟩
  obtain ⟨F0, x0, x1, S0, _⟩ := acc_told A' S' hi
  refine ht j hj σ' F0 H' _ x1 S0 fun F2 H2 g => ?_
  have A2 : Acc K D F1 H1 F' H2 (l j) := by
    obtain ⟨acc, hh, hd⟩ := A'.at_
    exact ⟨⟨A'.gr.ff, A'.gr.hh.trans g.hh, A'.gr.fh.trans g.hh, A'.gr.nw⟩, A'.off, acc, g.hh _ _ hh, hd⟩
  by_cases hlt : j < m
  · rw [if_pos (decide_eq_true hlt)]
    refine ⟨fun σ3 H3 => ∃ F3, Acc K D F1 H1 F3 H3 (l (j + 1)) ∧ Ex F F3 ∧ Sl F3 σ3 ps, fun σ3 H3 ⟨F3, q1, q2, q3⟩ => ⟨m - (j + 1), by omega, j + 1, F3, rfl, hlt, q1, q2, q3⟩, ?_⟩
    exact hb j hlt _ σ' F' H2 A2 S' fun σ3 F3 H3 A3 e3 S3 => ⟨F3, A3, e'.trans e3, S3⟩
  · have : j = m := by omega
    subst this
    rw [if_neg (by simp)]
    exact k σ' F' H2 A2 e' S'
/-! ### tuples of what is known -/
def tpP (Ps : List PV) : PV := ⟨fun H v => ∃ a xs, v = .ref a ∧ H a = some (.tup xs) ∧ AllP H xs Ps, fun e h => by
  obtain ⟨a, xs, h1, h2, h3⟩ := h
  exact ⟨a, xs, h1, e _ _ h2, h3.mono e⟩⟩
theorem je_tupP {Ps : List PV} (h : JA K M W tr ps Ps) (hl : Ps.length ≤ 100000 := by decide) : JV K M W (tTup tr) ps (tpP Ps) := fun σ F H Q fh S k =>
  h σ F H _ fh S fun vs F1 H1 e1 a => ⟨sz_of (by rw [a.length]; exact hl), fun p hp => k _ _ _ (e1.trans (Gr.new e1.fh hp)) ⟨p, vs, rfl, upd_same, a.mono (Gr.new (o := .tup vs) e1.fh hp).ff⟩⟩
theorem je_ixTP {Ps : List PV} {P : PV} {j : Nat} (ha : JV K M W ta ps (tpP Ps)) (hb : JD K M W tb ps (.int (j : Nat))) (hj : Ps[j]? = some P) : JV K M W (tOp (rIxT K) ta tb) ps P := je_op ha hb fun x y F H fh p q Q k => by
  obtain ⟨a, xs, rfl, hs, al⟩ := p
  obtain ⟨v, hv, pv⟩ := al.get hj
  exact ⟨a, xs, j, v, rfl, dp_int q, st_of (fh _ _ hs), atI_nat hv, k v F H (Gr.refl fh) pv⟩
theorem je_notNone {d : PyData} {b : Bool} (ha : JD K M W ta ps d) (hn : (d ≠ .none ∧ b = true) ∨ (d = .none ∧ b = false)) : JD K M W (tOp rNotN ta (tC .non)) ps (.bool b) := fun σ F H Q fh S k => ha.go fh S fun v F' H' g p => by
  refine ⟨rfl, ?_⟩
  have e : (!decide (v = V.non)) = b := by
    rcases hn with ⟨h1, rfl⟩ | ⟨rfl, rfl⟩
    · rw [decide_eq_false fun z => ?_]
      · rfl
      · subst z
        cases p
        exact h1 rfl
    · cases p
      rfl
  rw [e]
  exact k _ F' H' g (.bl b)
/-! ### what does not lie in a list -/
def cutA (F : Hp) (D : Addr) : Hp := fun a => if a = D then none else F a
theorem cutA_ex {F : Hp} {D : Addr} : Ex (cutA F D) F := fun a o e => by
  unfold cutA at e
  by_cases z : a = D
  · rw [if_pos z] at e; cases e
  · rw [if_neg z] at e; exact e
theorem cutA_ne {F : Hp} {D a : Addr} (h : a ≠ D) : cutA F D a = F a := if_neg h
/-- known of a value without looking at any list -/
def Ro (P : PV) : Prop := ∀ (F : Hp) (D : Addr) (acc : List V) (v : V), F D = some (.lst acc) → P.p F v → P.p (cutA F D) v
theorem ro_xv {v : V} : Ro (xv v) := fun _ _ _ _ _ h => h
mutual
def noL : PyData → Bool
  | .list _ => false
  | .dict _ => false
  | .tuple ds => noLs ds
  | _ => true
def noLs : List PyData → Bool
  | [] => true
  | d :: r => noL d && noLs r
end
theorem sqT_cut {F : Hp} {D a : Addr} {acc xs : List V} (h : F D = some (.lst acc)) (s : SqT K F a xs) : SqT K (cutA F D) a xs := by
  rcases s with s | s
  · have ne : a ≠ D := fun z => by
      subst z
      rcases s with s | ⟨o, s⟩
      · rw [h] at s; cases s
      · rw [h] at s; cases s
    refine .inl ?_
    rcases s with s | ⟨o, s⟩
    · exact .inl (by rw [cutA_ne ne]; exact s)
    · exact .inr ⟨o, by rw [cutA_ne ne]; exact s⟩
  · exact .inr s
mutual
theorem dp_cut {F : Hp} {D : Addr} {acc : List V} (h : F D = some (.lst acc)) : ∀ {v : V} {d : PyData}, noL d = true → Dp K F v d → Dp K (cutA F D) v d
  | _, _, _, .non => .non
  | _, _, _, .bl b => .bl b
  | _, _, _, .int i => .int i
  | _, _, _, .str x => .str x
  | _, _, n, .lst _ _ => by simp [noL] at n
  | _, _, n, .tup s a => .tup (sqT_cut h s) (dpAll_cut h (by simpa [noL] using n) a)
theorem dpAll_cut {F : Hp} {D : Addr} {acc : List V} (h : F D = some (.lst acc)) : ∀ {vs : List V} {ds : List PyData}, noLs ds = true → DpAll K F vs ds → DpAll K (cutA F D) vs ds
  | _, _, _, .nil => .nil
  | _, _, n, .cons p r => by
    have n2 := Bool.and_eq_true_iff.mp (by simpa only [noLs] using n)
    exact .cons (dp_cut h n2.1 p) (dpAll_cut h n2.2 r)
end
theorem ro_dv {d : PyData} (n : noL d = true) : Ro (dv K d) := fun F D acc v h p => dp_cut h n p
theorem ro_ob1 {C : Addr} {f : Str} {d : PyData} (n : noL d = true) : Ro (ob1 K C f d) := fun F D acc v h p => by
  obtain ⟨a, dx, u, rfl, h2, h3⟩ := p
  refine ⟨a, dx, u, rfl, ?_, dp_cut h n h3⟩
  rw [cutA_ne fun z => by subst z; rw [h] at h2; cases h2]
  exact h2
theorem allP_cut {F : Hp} {D : Addr} {acc : List V} (h : F D = some (.lst acc)) : ∀ {vs : List V} {Ps : List PV}, (∀ P ∈ Ps, Ro P) → AllP F vs Ps → AllP (cutA F D) vs Ps
  | _, _, _, .nil => .nil
  | _, _, r, .cons p a => .cons (r _ List.mem_cons_self _ _ _ _ h p) (allP_cut h (fun P hP => r P (List.mem_cons_of_mem _ hP)) a)
theorem ro_tpP {Ps : List PV} (r : ∀ P ∈ Ps, Ro P) : Ro (tpP Ps) := fun F D acc v h p => by
  obtain ⟨a, xs, rfl, h2, h3⟩ := p
  refine ⟨a, xs, rfl, ?_, allP_cut h r h3⟩
  rw [cutA_ne fun z => by subst z; rw [h] at h2; cases h2]
  exact h2
theorem noLs_ints : ∀ ns : List Int, noLs (ns.map PyData.int) = true
  | [] => rfl
  | n :: r => by
    rw [List.map_cons, noLs, noLs_ints r]
    rfl
theorem noLs_pD : ∀ ps : List (Int × Int), noLs (ps.map pD) = true
  | [] => rfl
  | p :: r => by
    rw [List.map_cons, noLs, noLs_pD r]
    rfl
/-- out of a heap where a list of one's own is told, back to it -/
theorem acc_back {D : Addr} {F1 H1 F H F0 F2 H2 : Hp} {ds : List PyData} {acc : List V} (A : Acc K D F1 H1 F H ds) (hacc : H D = some (.lst acc)) (e0 : F0 = upd F D (.lst acc)) (g : Gr F0 H F2 H2) : Acc K D F1 H1 (cutA F2 D) H2 ds ∧ Ex F (cutA F2 D) ∧ F2 D = some (.lst acc) := by
  subst e0
  have f2 : F2 D = some (.lst acc) := g.ff _ _ upd_same
  have ne : ∀ {b : Addr} {o : HO}, F b = some o → b ≠ D := fun {b o} h z => by
    subst z
    rw [A.off] at h
    cases h
  have x : Ex F (cutA F2 D) := fun b o h => by
    rw [cutA_ne (ne h)]
    exact g.ff _ _ (by rw [upd_ne (ne h)]; exact h)
  obtain ⟨acc2, h2, hd⟩ := A.at_
  rw [hacc] at h2
  cases h2
  refine ⟨⟨⟨A.gr.ff.trans x, A.gr.hh.trans g.hh, cutA_ex.trans g.fh, fun a ha hf => ?_⟩, if_pos rfl, acc, g.hh _ _ hacc, dpAll_mono x hd⟩, x, f2⟩
  by_cases z : a = D
  · exact if_pos z
  · rw [cutA_ne z]
    refine g.nw a (fun y => ha (fresh_back A.gr.hh y)) ?_
    rw [upd_ne z]
    exact A.gr.nw a ha hf
theorem acc_told2 {D : Addr} {F1 H1 F H : Hp} {i : Nat} {σ : L2.St} {ds : List PyData} {acc : List V} (A : Acc K D F1 H1 F H ds) (hacc : H D = some (.lst acc)) (S : Sl F σ ps) (hi : ps[i]? = some (some (xv (.ref D)))) : Ex (upd F D (.lst acc)) H ∧ Sl (upd F D (.lst acc)) σ (ps.set i (some (dv K (.list ds)))) := by
  obtain ⟨acc0, h0, hd0⟩ := A.at_
  rw [hacc] at h0
  cases h0
  have fo : Ex F (upd F D (.lst acc)) := Ex.new A.off
  refine ⟨fun b o q => ?_, ⟨by rw [List.length_set]; exact S.1, fun b P hb => ?_⟩⟩
  · by_cases z : b = D
    · subst z
      rw [upd_same] at q
      cases q
      exact hacc
    · rw [upd_ne z] at q
      exact A.gr.fh b o q
  · by_cases z : b = i
    · subst z
      have hl : b < ps.length := (List.getElem?_eq_some_iff.mp hi).1
      rw [List.getElem?_set_self hl] at hb
      cases hb
      exact ⟨_, sl_at S hi, .lst (sq_of upd_same) (dpAll_mono fo hd0)⟩
    · rw [List.getElem?_set_ne (fun y => z y.symm)] at hb
      exact (S.mono fo).2 b P hb
/-! ### expressions while a list of one's own is held -/
def JLX (K : PySem.W.Frag) (D : Addr) (F1 H1 : Hp) (te : TE) (ps : Kn) (ds : List PyData) (P : PV) : Prop := ∀ σ F H Q, Acc K D F1 H1 F H ds → Sl F σ ps → (∀ v F' H', Acc K D F1 H1 F' H' ds → Ex F F' → P.p F' v → Q v H') → te σ H Q
def JLA (K : PySem.W.Frag) (D : Addr) (F1 H1 : Hp) (ta : TA) (ps : Kn) (ds : List PyData) (Ps : List PV) : Prop := ∀ σ F H Q, Acc K D F1 H1 F H ds → Sl F σ ps → (∀ vs F' H', Acc K D F1 H1 F' H' ds → Ex F F' → AllP F' vs Ps → Q vs H') → ta σ H Q
variable {D : Addr} {F1 H1 : Hp} {ds es : List PyData} {P : PV} {Ps : List PV} {R : LR} {i j : Nat}
theorem jlx_jv (h : JV K M W te ps P) : JLX K D F1 H1 te ps ds P := fun σ F H Q A S k => h.go A.gr.fh S fun v F' H' g p => k v F' H' (A.step g) g.ff p
/-- the list itself is read, the value does not lie in it -/
theorem jlx_ro (hi : ps[i]? = some (some (xv (.ref D)))) (h : JV K M W te (ps.set i (some (dv K (.list ds)))) P) (r : Ro P) : JLX K D F1 H1 te ps ds P := fun σ F H Q A S k => by
  obtain ⟨acc, hacc, _⟩ := id A.at_
  obtain ⟨x1, S0⟩ := acc_told2 A hacc S hi
  refine h.go x1 S0 fun v F2 H2 g p => ?_
  obtain ⟨A2, x2, f2⟩ := acc_back A hacc rfl g
  exact k v _ H2 A2 x2 (r _ _ _ _ f2 p)
theorem jla_nil : JLA K D F1 H1 tNil ps ds [] := fun σ F H Q A S k => k [] F H A (Ex.refl _) .nil
theorem jla_cons (h : JLX K D F1 H1 te ps ds P) (hr : JLA K D F1 H1 tr ps ds Ps) : JLA K D F1 H1 (tCons te tr) ps ds (P :: Ps) := fun σ F H Q A S k =>
  h σ F H _ A S fun v F2 H2 A2 e2 p => hr σ F2 H2 _ A2 (S.mono e2) fun vs F3 H3 A3 e3 a => k (v :: vs) F3 H3 A3 (e2.trans e3) (.cons (PV.mn _ e3 p) a)
theorem jlx_call {α : Type} {args : α → List PV} {dom : α → Prop} {out : α → Out} {E : L2.St → XK} (a : α) (h : JLA K D F1 H1 tr ps ds (args a)) (hd : dom a) (ho : out a = .ok P) : JLX K D F1 H1 (tCallS (Prm K M args dom out) E tr) ps ds P := fun σ F H Q A S k =>
  h σ F H _ A S fun vs F2 H2 A2 e2 b => ⟨a, F2, A2.gr.fh, b, hd, by
    rw [ho]
    exact fun v F3 H3 g p => k v F3 H3 (A2.step g) (e2.trans g.ff) p⟩
theorem jl_setX (h : JLX K D F1 H1 te ps ds P) : JL K M W D F1 H1 (tAsg te (gName j)) ps ds (.nx (ps.set j (some P)) ds) := fun Dn σ F H A S k => h σ F H _ A S fun v F2 H2 A2 e2 p => k _ F2 H2 A2 e2 ((S.mono e2).set j p)
/-- xs[k] = e, e read off xs itself -/
theorem jl_setXL {m : Nat} {d : PyData} (hi : ps[i]? = some (some (xv (.ref D)))) (hD : H1 D = none) (h : JLX K D F1 H1 te ps ds (dv K d)) (hk : JD K M W ty ps (.int (m : Nat))) (hm : m < ds.length) : JL K M W D F1 H1 (tAsg te (gSub (tVar i) ty rSetL)) ps ds (.nx ps (ds.set m d)) := fun Dn σ F H A S k =>
  h σ F H _ A S fun v F2 H2 A2 e2 p => by
    refine ⟨.ref D, sl_at S hi, hk.go A2.gr.fh (S.mono e2) fun u F3 H3 g3 q => ?_⟩
    have A3 := A2.step g3
    obtain ⟨acc, h3, hd⟩ := A3.at_
    exact ⟨D, acc, (m : Nat), m, rfl, dp_int q, h3, by rw [A3.len h3]; exact ixN_nat hm, k σ F3 _ (acc_set A3 hD h3 (dp_mono g3.ff p)) (e2.trans g3.ff) ((S.mono e2).mono g3.ff)⟩
theorem jl_appX {d : PyData} (hi : ps[i]? = some (some (xv (.ref D)))) (hD : H1 D = none) (h : JLX K D F1 H1 te ps ds (dv K d)) (hl : ds.length < 90000) : JL K M W D F1 H1 (tDrop (tBM K "list" rAppend (tVar i) (tCons te tNil))) ps ds (.nx ps (ds ++ [d])) := fun Dn σ F H A S k => by
  obtain ⟨acc0, h00, hd0⟩ := id A.at_
  refine ⟨.ref D, sl_at S hi, (.inl ⟨rfl, acc0, sq_of h00⟩), h σ F H _ A S fun x F2 H2 A2 e2 p => ?_⟩
  obtain ⟨acc, h2, hd⟩ := id A2.at_
  exact ⟨D, acc, x, rfl, rfl, h2, sz_lt (by rw [A2.len h2]; omega), k σ F2 _ (A2.app hD h2 p) e2 (S.mono e2)⟩
/-- nobody looks at the list any more -/
theorem jl_leave {d : PyData} (h : JS K M W ts ps (.rt (dv K d))) : JL K M W D F1 H1 ts ps ds (.rt d) := fun Dn σ F H A S k => h Dn σ F H A.gr.fh S fun v F' H' g p => k v F' H' (A.gr.trans g) p
/-- a for that may be left: m turns go on, then it ends, or the turn m returns -/
theorem jl_first {vs : List Nat} {wi : TI} {g : TG} {tb : TS} (xs : List PyData) (m : Nat) (f : Nat → Kn) (l : Nat → List PyData) (hi : JI K M W wi ps xs) (h0 : f 0 = ps) (hl0 : l 0 = ds) (hm : m < xs.length) {d0 : PyData}
    (hs : ∀ (j : Nat) (d : PyData), j < m → xs[j]? = some d → ∃ qs, JG vs g (f j) (dv K d) qs ∧ JL K M W D F1 H1 tb qs (l j) (.nx (f (j + 1)) (l (j + 1))))
    (he : ∀ d, xs[m]? = some d → ∃ qs, JG vs g (f m) (dv K d) qs ∧ JL K M W D F1 H1 tb qs (l m) (.rt d0)) : JL K M W D F1 H1 (tFor wi g tb) ps ds (.rt d0) := fun Dn σ F H A S k => hi σ F H _ A.gr.fh S fun J F2 H2 e1 it => by
  refine ⟨fun i n σ' H' => n = xs.length - i ∧ i ≤ m ∧ ∃ F', Acc K D F1 H1 F' H' (l i) ∧ Ex F2 F' ∧ Sl F' σ' (f i), ⟨xs.length, by omega, Nat.zero_le _, F2, by rw [hl0]; exact A.step e1, Ex.refl _, by rw [h0]; exact S.mono e1.ff⟩, ?_⟩
  rintro i n σ' H' ⟨rfl, him, F3, A3, e3, S3⟩
  have hlt : i < xs.length := by omega
  by_cases him2 : i < m
  · refine .inr ⟨it.go i H' (e3.trans A3.gr.fh) hlt, fun σ4 H4 => ∃ F4, Acc K D F1 H1 F4 H4 (l (i + 1)) ∧ Ex F2 F4 ∧ Sl F4 σ4 (f (i + 1)), fun σ4 H4 q => ⟨xs.length - (i + 1), by omega, rfl, him2, q⟩, fun x H4 y => ?_⟩
    obtain ⟨F4, e4, dx⟩ := it.yld i _ F3 H' x H4 e3 A3.gr.fh (List.getElem?_eq_getElem hlt) y
    obtain ⟨qs, hg, hb⟩ := hs i _ him2 (List.getElem?_eq_getElem hlt)
    have A4 := A3.step e4
    refine hg x σ' F4 H4 _ e4.fh (S3.mono e4.ff) dx fun σ5 F5 H5 e5 S5 _ => ?_
    exact hb _ σ5 F5 H5 (A4.step e5) S5 fun σ6 F6 H6 A6 e6 S6 => ⟨F6, A6, ((e3.trans e4.ff).trans e5.ff).trans e6, S6⟩
  · have hem : i = m := by omega
    subst hem
    refine .inr ⟨it.go i H' (e3.trans A3.gr.fh) hlt, fun _ _ => False, fun _ _ z => z.elim, fun x H4 y => ?_⟩
    obtain ⟨F4, e4, dx⟩ := it.yld i _ F3 H' x H4 e3 A3.gr.fh (List.getElem?_eq_getElem hlt) y
    obtain ⟨qs, hg, hb⟩ := he _ (List.getElem?_eq_getElem hlt)
    have A4 := A3.step e4
    refine hg x σ' F4 H4 _ e4.fh (S3.mono e4.ff) dx fun σ5 F5 H5 e5 S5 _ => ?_
    exact hb _ σ5 F5 H5 (A4.step e5) S5 k
/-! ### sorted ints, made anew -/
theorem sortI_one : ∀ {xs ys : List Int}, xs.Perm ys → xs.Pairwise (· ≤ ·) → ys.Pairwise (· ≤ ·) → xs = ys := fun {xs ys} h h1 h2 => h.eq_of_pairwise (fun a b _ _ => Int.le_antisymm) h1 h2
theorem jn_sortI {ns ms : List Int} (h : JD K M W te ps (.list (ns.map .int))) (hp : ms.Perm ns) (hs : ms.Pairwise (· ≤ ·)) : JN K (tCB (rSortedI K) (tCons te tNil)) ps (ms.map .int) := fun σ F H Q fh S k => h.go fh S fun v F1 H1 e p => by
  obtain ⟨a, xs, rfl, hx, hd⟩ := dp_lst p
  have e2 := dpAll_ints_eq hd
  subst e2
  refine ⟨a, ns, rfl, ex_l e.fh hx, fun ns' q h1 h2 hq => ?_⟩
  have : ns' = ms := sortI_one (h1.trans hp.symm) h2 hs
  subst this
  exact k q F1 _ ⟨gr_mut e (fresh_back e.hh hq) (fresh_back e.fh hq), fresh_back e.fh hq, _, upd_same, dpAll_ints _⟩ (fresh_back e.hh hq)
end
end EB

/-! EB23: try whose suite goes on with the slots as they were; several lists of one's own, made by calls, read by tests. -/
namespace EB
open PySem PySem.Spec PyProof.Rows L2 Evl
section
variable {K : PySem.W.Frag} {M : EC → Addr} {W : WX} {ps qs rs : Kn} {te ta tb td ty tk tv : TE} {t u : TT} {ts tu tw : TS} {tr : TA} {vs ws : List Nat} {r : Res} {e : Er}
/-- it raises e, and the slots are known then -/
def JSE (K : PySem.W.Frag) (M : EC → Addr) (W : WX) (ts : TS) (ps : Kn) (e : Er) (qs : Kn) : Prop := ∀ D σ F H, Ex F H → Sl F σ ps → (∀ d u σ' F' H', Gr F H F' H' → H d = none → H' d = some (.xd [(e.c.fld, u)]) → Dp K F' u e.val → Sl F' σ' qs → W (.ref (M e.c)) (some d) σ' H') → ts D σ H
theorem jse_set {g : TG} (h : JE K M W te ps (.er e)) : JSE K M W (tAsg te g) ps e ps := fun D σ F H fh S k => h σ F H _ fh S fun d u F' H' e1 n a b => k d u σ F' H' e1 n a b (S.mono e1.ff)
theorem jse_seq (h1 : JS K M W ts ps (.nx qs)) (h2 : JSE K M W tu qs e rs) : JSE K M W (tSeq ts tu) ps e rs := fun D σ F H fh S k => h1 { D with nx := tu D } σ F H fh S fun σ' F' H' g s => h2 D σ' F' H' g.fh s fun d u σ2 F2 H2 g2 n a b s2 => k d u σ2 F2 H2 (g.trans g2) (fresh_back g.hh n) a b s2
theorem jse_fst (h1 : JSE K M W ts ps e qs) : JSE K M W (tSeq ts tu) ps e qs := fun D σ F H fh S k => h1 { D with nx := tu D } σ F H fh S k
/-- the first clause catches it, its suite goes on -/
theorem js_try_erK {tb : WX → TS} {Wo : WX} {c : Value} {i : Nat} {tz : Addr → Value → Option Addr → TS} {l : List (Value × Nat × (Addr → Value → Option Addr → TS))} (hb : ∀ W', JSE K M W' (tb W') ps e qs) (hx : PySem.W.exmOne K (.ref (M e.c)) c = some true)
    (hs : ∀ a dd, JS K M W (tz a (.ref (M e.c)) (some dd)) (qs.set i (some (exv K a dd e.c.fld e.val))) (.nx rs)) : JS K M W (fun D σ H => tb (wClauses K Wo D ((c, i, tz) :: l)) D σ H) ps (.nx (rs.set i none)) := fun D σ F H fh S k =>
  hb _ D σ F H fh S fun d u σ' F1 H1 g hn hd dp S' => by
    refine ⟨true, hx, fun _ a ha => ?_, fun z => Bool.noConfusion z⟩
    have fo : ∀ o, F1 d = some o → o = .xd [(e.c.fld, u)] := fun o ho => by
      have := g.fh _ _ ho
      rw [hd] at this
      exact (Option.some.inj this).symm
    have F2 : Ex F1 (upd F1 d (.xd [(e.c.fld, u)])) := fun b o q => by
      by_cases z : b = d
      · subst z
        rw [upd_same, fo o q]
      · rw [upd_ne z]
        exact q
    have fh2 : Ex (upd F1 d (.xd [(e.c.fld, u)])) H1 := fun b o q => by
      by_cases z : b = d
      · subst z
        rw [upd_same] at q
        cases q
        exact hd
      · rw [upd_ne z] at q
        exact g.fh b o q
    have S0 : Sl (upd F1 d (.xd [(e.c.fld, u)])) (σ'.set i (some (.ref a))) (qs.set i (some (exv K a d e.c.fld e.val))) := (S'.mono F2).set i ⟨rfl, u, upd_same, dp_mono F2 dp⟩
    refine hs a d _ (σ'.set i (some (.ref a))) _ H1 fh2 S0 fun σ3 F3 H3 g3 S3 => ?_
    exact k _ F3 H3 ⟨g.ff.trans (F2.trans g3.ff), g.hh.trans g3.hh, g3.fh, fun b hb hf => g3.nw b (fun z => by
      have := fresh_back g.hh z
      exact hb this) (by
        by_cases z : b = d
        · subst z
          exact absurd hn hb
        · rw [upd_ne z]
          exact g.nw b hb hf)⟩ (S3.forget i none)
/-! ### several lists of one's own -/
variable {F1 H1 : Hp} {Os : Ow} {R : MR} {D : Addr} {ds : List PyData}
/-- x = e, a list made anew -/
theorem jm_callN {i : Nat} (h : JN K te ps ds) (hu : ∀ D, JM K F1 H1 tu (ps.set i (some (xv (.ref D)))) ((D, ds.map (dv K)) :: Os) R) : JM K F1 H1 (tSeq (tAsg te (gName i)) tu) ps Os R := fun Dn σ F H A S k => h σ F H _ A.gr.fh S fun D F2 H2 a hD => by
  have A2 : AccM ((D, ds.map (dv K)) :: Os) F1 H1 F2 H2 := by
    have st := A.step a.gr
    have ne : ∀ p ∈ Os, p.1 ≠ D := fun p hp z => by
      obtain ⟨acc, e, _⟩ := A.at_ p hp
      rw [z, hD] at e
      cases e
    refine ⟨st.gr, List.nodup_cons.mpr ⟨fun z => ?_, st.nd⟩, fun p hp => ?_, fun p hp => ?_, fun p hp => ?_⟩
    · obtain ⟨p, hp, e⟩ := List.mem_map.mp z
      exact ne p hp e
    · rcases List.mem_cons.mp hp with rfl | z
      · exact fresh_back A.gr.hh hD
      · exact st.fr p z
    · rcases List.mem_cons.mp hp with rfl | z
      · exact a.off
      · exact st.off p z
    · rcases List.mem_cons.mp hp with rfl | z
      · obtain ⟨acc, e, d⟩ := a.at_
        exact ⟨acc, e, AllP.of_dv d⟩
      · exact st.at_ p z
  exact hu D Dn _ F2 H2 A2 ((S.mono a.gr.ff).set i rfl) (MW.step a.gr.ff k)
/-- all of them told for a while -/
theorem accM_told {F H : Hp} (A : AccM Os F1 H1 F H) : ∃ F', Ex F F' ∧ Ex F' H ∧ ∀ p ∈ Os, ∃ acc, F' p.1 = some (.lst acc) ∧ AllP F' acc p.2 := by
  classical
  let F' : Hp := fun a => if a ∈ Os.map (·.1) then H a else F a
  have ff : Ex F F' := fun a o e => by
    by_cases z : a ∈ Os.map (·.1)
    · obtain ⟨p, hp, rfl⟩ := List.mem_map.mp z
      rw [A.off p hp] at e
      cases e
    · show (if a ∈ Os.map (·.1) then H a else F a) = some o
      rw [if_neg z]
      exact e
  have fh : Ex F' H := fun a o e => by
    by_cases z : a ∈ Os.map (·.1)
    · have e2 : (if a ∈ Os.map (·.1) then H a else F a) = some o := e
      rw [if_pos z] at e2
      exact e2
    · have e2 : (if a ∈ Os.map (·.1) then H a else F a) = some o := e
      rw [if_neg z] at e2
      exact A.gr.fh _ _ e2
  refine ⟨F', ff, fh, fun p hp => ?_⟩
  obtain ⟨acc, e, al⟩ := A.at_ p hp
  refine ⟨acc, ?_, al.mono ff⟩
  show (if p.1 ∈ Os.map (·.1) then H p.1 else F p.1) = _
  rw [if_pos (List.mem_map.mpr ⟨p, hp, rfl⟩)]
  exact e
/-- a test that reads them; it says no, and all goes on -/
theorem jm_ifRF (hq : ∀ F' σ, (∀ p ∈ Os, ∃ acc, F' p.1 = some (.lst acc) ∧ AllP F' acc p.2) → Sl F' σ ps → Sl F' σ qs) (h : JT K M W t qs false) (hu : JM K F1 H1 tu ps Os R) : JM K F1 H1 (tSeq (tIfS t ts tNext) tu) ps Os R := fun Dn σ F H A S k => by
  obtain ⟨F0, x0, x1, al⟩ := accM_told A
  refine h σ F0 H _ x1 (hq F0 σ al (S.mono x0)) fun F2 H2 g => ?_
  have A2 : AccM Os F1 H1 F H2 := ⟨⟨A.gr.ff, A.gr.hh.trans g.hh, A.gr.fh.trans g.hh, A.gr.nw⟩, A.nd, A.fr, A.off, fun p hp => by
    obtain ⟨acc, e, d⟩ := A.at_ p hp
    exact ⟨acc, g.hh _ _ e, d⟩⟩
  show (if false = true then _ else _)
  rw [if_neg (by decide)]
  exact hu Dn σ F H2 A2 S k
theorem sl_told {F : Hp} {σ : L2.St} {i : Nat} {acc : List V} (S : Sl F σ ps) (hi : ps[i]? = some (some (xv (.ref D)))) (h : F D = some (.lst acc)) (al : AllP F acc (ds.map (dv K))) : Sl F σ (ps.set i (some (dv K (.list ds)))) := by
  refine ⟨by rw [List.length_set]; exact S.1, fun b P hb => ?_⟩
  by_cases z : b = i
  · subst z
    have hl : b < ps.length := (List.getElem?_eq_some_iff.mp hi).1
    rw [List.getElem?_set_self hl] at hb
    cases hb
    exact ⟨_, sl_at S hi, .lst (sq_of h) al.dv⟩
  · rw [List.getElem?_set_ne (fun y => z y.symm)] at hb
    exact S.2 b P hb
end
end EB

/-! EB24: data that is short enough for repr; texts that differ or not. -/
namespace EB
open PySem PySem.Spec PyProof.Rows L2 Evl
/-- small data: at most n deep, of weight w at most -/
structure Sm (d : PyData) (n w : Nat) : Prop where
  sh : PyData.showable d = true
  c : PyData.canLay0 d = true
  dp : PyData.depth d ≤ n
  wt : PyData.weight d ≤ w
  si : PyData.intsShort 13 d = true
theorem log_lt {a k : Nat} (hk : 0 < k) (h : a < 2 ^ k) : a.log2 < k := by
  by_cases z : a = 0
  · subst z
    rw [show Nat.log2 0 = 0 by decide +kernel]
    exact hk
  · exact (Nat.log2_lt z).mpr h
theorem sm_int {i : Int} (h : -10000000000 < i ∧ i < 10000000000) : Sm (.int i) 1 36 := by
  have hn : i.natAbs < 2 ^ 34 := by omega
  have hl := log_lt (by decide) hn
  refine ⟨?_, by simp only [PyData.canLay0], by simp only [PyData.depth]; omega, ?_, ?_⟩
  · simp only [PyData.showable]
    exact decide_eq_true (by omega)
  · simp only [PyData.weight]
    split <;> omega
  · simp only [PyData.intsShort]
    refine decide_eq_true ?_
    show (Str.ofString (toString i)).length ≤ 13
    by_cases z : 0 ≤ i
    · have := toString_length_le z (k := 10) (by decide) (by omega)
      omega
    · have e := len_text_neg (n := i) (by omega)
      have := toString_length_le (v := 0 - i) (by omega) (k := 10) (by decide) (by omega)
      omega
theorem sm_bl {b : Bool} : Sm (.bool b) 1 36 := ⟨by simp only [PyData.showable], by simp only [PyData.canLay0], by simp only [PyData.depth]; omega, by simp only [PyData.weight]; omega, by simp only [PyData.intsShort]⟩
theorem sm_non : Sm .none 1 36 := ⟨by simp only [PyData.showable], by simp only [PyData.canLay0], by simp only [PyData.depth]; omega, by simp only [PyData.weight]; omega, by simp only [PyData.intsShort]⟩
theorem sm_str {x : Str} (h : PyData.strOk x = true) (hs : x.cps.size ≤ 36) : Sm (.str x) 1 36 := ⟨by simp only [PyData.showable], by simp only [PyData.canLay0]; exact h, by simp only [PyData.depth]; omega, by simp only [PyData.weight]; exact hs, by simp only [PyData.intsShort]⟩
theorem Sm.up {d : PyData} {n m w v : Nat} (h : Sm d n w) (a : n ≤ m) (b : w ≤ v) : Sm d m v := ⟨h.sh, h.c, Nat.le_trans h.dp a, Nat.le_trans h.wt b, h.si⟩
theorem sm_all {n w : Nat} : ∀ {ds : List PyData}, (∀ d ∈ ds, Sm d n w) → PyData.showableAll ds = true ∧ PyData.canLayAll0 ds = true ∧ PyData.depthAll ds ≤ n ∧ PyData.weightAll ds ≤ ds.length * (w + 1) ∧ PyData.intsShortAll 13 ds = true
  | [], _ => by simp [PyData.showableAll, PyData.canLayAll0, PyData.depthAll, PyData.weightAll, PyData.intsShortAll]
  | d :: r, h => by
    have a := h d List.mem_cons_self
    obtain ⟨b1, b2, b3, b4, b5⟩ := sm_all (ds := r) fun e he => h e (List.mem_cons_of_mem _ he)
    simp only [PyData.showableAll, PyData.canLayAll0, PyData.depthAll, PyData.weightAll, PyData.intsShortAll, Bool.and_eq_true, List.length_cons]
    refine ⟨⟨a.sh, b1⟩, ⟨a.c, b2⟩, Nat.max_le.mpr ⟨a.dp, b3⟩, ?_, a.si, b5⟩
    have := a.wt
    rw [Nat.succ_mul]
    omega
theorem sm_lst {n w : Nat} {ds : List PyData} (h : ∀ d ∈ ds, Sm d n w) : Sm (.list ds) (n + 1) (ds.length * (w + 1)) := by
  obtain ⟨b1, b2, b3, b4, b5⟩ := sm_all h
  exact ⟨by simp only [PyData.showable]; exact b1, by simp only [PyData.canLay0]; exact b2, by simp only [PyData.depth]; omega, by simp only [PyData.weight]; exact b4, by simp only [PyData.intsShort]; exact b5⟩
theorem sm_tup {n w : Nat} {ds : List PyData} (h : ∀ d ∈ ds, Sm d n w) : Sm (.tuple ds) (n + 1) (ds.length * (w + 1)) := by
  obtain ⟨b1, b2, b3, b4, b5⟩ := sm_all h
  exact ⟨by simp only [PyData.showable]; exact b1, by simp only [PyData.canLay0]; exact b2, by simp only [PyData.depth]; omega, by simp only [PyData.weight]; exact b4, by simp only [PyData.intsShort]; exact b5⟩
theorem Sm.len {d : PyData} {n w : Nat} (h : Sm d n w) (hn : n ≤ 60) (hw : w ≤ 1000000) : d.shown.length ≤ sizeLine := by
  have hl : PyData.layable0 d = true := by
    unfold PyData.layable0
    rw [h.c, decide_eq_true (show PyData.depth d ≤ 64 by have := h.dp; omega), decide_eq_true (show PyData.weight d ≤ 2 ^ 20 by have := h.wt; omega)]
    rfl
  have := shown_le13 hl h.si
  have e : sizeLine = 16777216 := by decide
  omega
section
variable {K : PySem.W.Frag} {M : EC → Addr} {W : WX} {ps : Kn} {te ta tb : TE}
theorem je_reprS {d : PyData} {n w : Nat} (h : JD K M W te ps d) (hr : (∃ ds, d = .list ds) ∨ ∃ ds, d = .tuple ds) (s : Sm d n w) (hn : n ≤ 60) (hw : w ≤ 1000000) : JD K M W (tCB (rRepr K) (tCons te tNil)) ps (.str d.shown) :=
  je_repr h hr s.sh (PyData.hasDict_of_canLay d s.c) (Nat.le_trans s.dp hn) (s.len hn hw)
theorem je_neS {x y : Str} (ha : JD K M W ta ps (.str x)) (hb : JD K M W tb ps (.str y)) : JD K M W (tOp rNe ta tb) ps (.bool (!decide (x = y))) := je_op ha hb fun a b F H fh p q Q k => by
  rw [dp_str p, dp_str q]
  refine ⟨rfl, ?_⟩
  have e : decide (V.str x = V.str y) = decide (x = y) := by
    by_cases h : x = y
    · subst h; simp
    · simp [h]
  rw [e]
  exact k _ F H (Gr.refl fh) (.bl _)
end
end EB

/-! EB25: gcd of three, while over ints, list.index of an int, products of long ints. -/
namespace EB
open PySem PySem.Spec PyProof.Rows L2 Evl PySem.Calls
/-! ### gcd of three -/
theorem gcd3_args (x y z : Value) : argsOk "math.gcd" ⟨[x, y, z], []⟩ := by
  unfold argsOk
  kernel_rfl
theorem gcd3_runs {i j k : Int} {ti tj tk : Tok} : Gives (PySem.Builtin.«math.gcd» ⟨[.int i ti, .int j tj, .int k tk], []⟩) (.int (((((Nat.gcd 0 i.natAbs).gcd j.natAbs).gcd k.natAbs : Nat) : Int))) := by
  refine .of_wp fun MM AA EE ss QQ hq => ?_
  obtain ⟨h0, h1, h2, h3, h4⟩ := ss
  wp_walk
  exact ⟨_, rfl, hq⟩
def rGcd3 : List V → Hp → VK → Prop := fun xs H Q => ∃ i j k : Int, xs = [.int i, .int j, .int k] ∧ Q (.int (((i.natAbs.gcd j.natAbs).gcd k.natAbs : Nat) : Int)) H
theorem cr_gcd3 {X : Cx} : CallR X (.builtin "math.gcd") rGcd3 := by
  intro pins s σ H xs us Q I rv want
  obtain ⟨i, j, k, rfl, q⟩ := want
  cases rv with
  | cons r1 rv =>
    cases rv with
    | cons r2 rv =>
      cases rv with
      | cons r3 rv =>
        cases rv
        obtain ⟨t1, rfl⟩ := r1
        obtain ⟨t2, rfl⟩ := r2
        obtain ⟨t3, rfl⟩ := r3
        have g := gcd3_runs (i := i) (j := j) (k := k) (ti := t1) (tj := t2) (tk := t3)
        rw [Nat.gcd_zero_left] at g
        exact call_function_meets PySem.W.MGF.kind_gcd PySem.W.MGF.plain_gcd PySem.W.MGF.entry_gcd (gcd3_args _ _ _) g.meets ⟨.int _, H, I.tok _, ⟨_, rfl⟩, q⟩
section
variable {K : PySem.W.Frag} {M : EC → Addr} {W : WX} {ps qs : Kn} {te ta tb tc : TE} {t : TT} {ts : TS} {tr : TA}
theorem je_gcd3 {i j k : Int} (h1 : JD K M W ta ps (.int i)) (h2 : JD K M W tb ps (.int j)) (h3 : JD K M W tc ps (.int k)) : JD K M W (tCB rGcd3 (tCons ta (tCons tb (tCons tc tNil)))) ps (.int (((i.natAbs.gcd j.natAbs).gcd k.natAbs : Nat) : Int)) := je_cb (ja_cons h1 (ja_cons h2 (ja_cons h3 ja_nil))) fun vs F H fh b Q kk => by
  cases b with
  | cons p1 b =>
    obtain ⟨v, u, rfl, p2, p3⟩ := allP2 b
    rw [dp_int p1, dp_int p2, dp_int p3]
    exact ⟨i, j, k, rfl, kk _ F H (Gr.refl fh) (.int _)⟩
theorem je_mulW {i j : Int} (ha : JD K M W ta ps (.int i)) (hb : JD K M W tb ps (.int j)) (hc : CMulW i j) : JD K M W (tOp (rI CMulW fun i j => .int (i * j)) ta tb) ps (.int (i * j)) := je_iiC ha hb hc fun _ => .int _
/-- while: m turns, what is known of the slots ahead of each told by f -/
theorem js_while (m : Nat) (f : Nat → Kn) (h0 : f 0 = ps) (ht : ∀ j, j ≤ m → JT K M W t (f j) (decide (j < m))) (hb : ∀ j, j < m → JS K M W ts (f j) (.nx (f (j + 1)))) (hf : ∀ j, (f j).length = ps.length := by intro j; first | rfl | (simp; done)) : JS K M W (tWhile t ts) ps (.nx (f m)) := fun Dn σ F H fh S k => by
  refine ⟨fun n σ' H' => ∃ j F', n = m - j ∧ j ≤ m ∧ Gr F H F' H' ∧ Sl F' σ' (f j), ⟨m, 0, F, by omega, Nat.zero_le _, Gr.refl fh, by rw [h0]; exact S⟩, ?_⟩
  rintro n σ' H' ⟨j, F', rfl, hj, g, S'⟩
  refine ht j hj σ' F' H' _ g.fh S' fun F2 H2 g2 => ?_
  by_cases hlt : j < m
  · rw [if_pos (decide_eq_true hlt)]
    refine ⟨fun σ3 H3 => ∃ F3, Gr F H F3 H3 ∧ Sl F3 σ3 (f (j + 1)), fun σ3 H3 ⟨F3, q1, q2⟩ => ⟨m - (j + 1), by omega, j + 1, F3, rfl, hlt, q1, q2⟩, ?_⟩
    exact hb j hlt _ σ' F2 H2 g2.fh (S'.mono g2.ff) fun σ3 F3 H3 g3 S3 => ⟨F3, (g.trans g2).trans g3, S3⟩
  · have : j = m := by omega
    subst this
    rw [if_neg (by simp)]
    exact k σ' F2 H2 (g.trans g2) (S'.mono g2.ff)
/-- xs.index(i), ints -/
theorem je_index {ns : List Int} {i : Int} {j : Nat} (h : JD K M W te ps (.list (ns.map .int))) (ha : JD K M W ta ps (.int i)) (hj : ns[j]? = some i) (hn : ∀ m, m < j → ns[m]? ≠ some i) : JD K M W (tBM K "list" (rIndex K) te (tCons ta tNil)) ps (.int (j : Nat)) := fun σ F H Q fh S k => h.go fh S fun v F1 H1 e p => by
  obtain ⟨a, xs, rfl, hs, hd⟩ := dp_lst p
  have e2 := dpAll_ints_eq hd
  subst e2
  refine ⟨.inl ⟨rfl, _, ex_l e.fh hs⟩, ja_cons ha ja_nil σ F1 H1 _ e.fh (S.mono e.ff) fun vs F2 H2 e2 b => ?_⟩
  obtain ⟨v, rfl, p2⟩ := allP1 b
  have q := dp_int p2
  subst q
  have eqi : ∀ x y : Int, eqV (.int x) (.int y) = decide (x = y) := fun x y => by
    unfold eqV
    by_cases z : x = y
    · subst z; simp
    · simp [z]
  refine ⟨a, ns.map .int, .int i, j, .int i, rfl, rfl, ex_l (e.fh.trans e2.hh) hs, rfl, flat_ints ns, by rw [List.getElem?_map, hj] <;> rfl, by rw [eqi]; exact decide_eq_true rfl, fun m z hm hz => ?_, k _ F2 H2 (e.trans e2) (.int _)⟩
  rw [List.getElem?_map] at hz
  cases hx : ns[m]? with
  | none => rw [hx] at hz; cases hz
  | some x =>
    rw [hx] at hz
    cases hz
    rw [eqi]
    exact decide_eq_false fun y => hn m hm (by rw [hx, y])
end
end EB

/-! EB26: data with longer ints, short enough for repr; is None. -/
namespace EB
open PySem PySem.Spec PyProof.Rows L2 Evl
/-- data with ints of up to 19 digits -/
structure Sb (d : PyData) (n w : Nat) : Prop where
  sh : PyData.showable d = true
  c : PyData.canLay0 d = true
  dp : PyData.depth d ≤ n
  wt : PyData.weight d ≤ w
  si : PyData.intsShort 20 d = true
theorem sb_int {i : Int} (h : -10000000000000000000 < i ∧ i < 10000000000000000000) : Sb (.int i) 1 66 := by
  have hn : i.natAbs < 2 ^ 64 := by omega
  have hl := log_lt (by decide) hn
  refine ⟨?_, by simp only [PyData.canLay0], by simp only [PyData.depth]; omega, ?_, ?_⟩
  · simp only [PyData.showable]
    exact decide_eq_true (by omega)
  · simp only [PyData.weight]
    split <;> omega
  · simp only [PyData.intsShort]
    refine decide_eq_true ?_
    show (Str.ofString (toString i)).length ≤ 20
    by_cases z : 0 ≤ i
    · have := toString_length_le z (k := 19) (by decide) (by omega)
      omega
    · have e := len_text_neg (n := i) (by omega)
      have := toString_length_le (v := 0 - i) (by omega) (k := 19) (by decide) (by omega)
      omega
theorem sb_bl {b : Bool} : Sb (.bool b) 1 66 := ⟨by simp only [PyData.showable], by simp only [PyData.canLay0], by simp only [PyData.depth]; omega, by simp only [PyData.weight]; omega, by simp only [PyData.intsShort]⟩
theorem sb_non : Sb .none 1 66 := ⟨by simp only [PyData.showable], by simp only [PyData.canLay0], by simp only [PyData.depth]; omega, by simp only [PyData.weight]; omega, by simp only [PyData.intsShort]⟩
theorem sb_str {x : Str} (h : PyData.strOk x = true) (hs : x.cps.size ≤ 66) : Sb (.str x) 1 66 := ⟨by simp only [PyData.showable], by simp only [PyData.canLay0]; exact h, by simp only [PyData.depth]; omega, by simp only [PyData.weight]; exact hs, by simp only [PyData.intsShort]⟩
theorem Sb.up {d : PyData} {n m w v : Nat} (h : Sb d n w) (a : n ≤ m) (b : w ≤ v) : Sb d m v := ⟨h.sh, h.c, Nat.le_trans h.dp a, Nat.le_trans h.wt b, h.si⟩
theorem sb_all {n w : Nat} : ∀ {ds : List PyData}, (∀ d ∈ ds, Sb d n w) → PyData.showableAll ds = true ∧ PyData.canLayAll0 ds = true ∧ PyData.depthAll ds ≤ n ∧ PyData.weightAll ds ≤ ds.length * (w + 1) ∧ PyData.intsShortAll 20 ds = true
  | [], _ => by simp [PyData.showableAll, PyData.canLayAll0, PyData.depthAll, PyData.weightAll, PyData.intsShortAll]
  | d :: r, h => by
    have a := h d List.mem_cons_self
    obtain ⟨b1, b2, b3, b4, b5⟩ := sb_all (ds := r) fun e he => h e (List.mem_cons_of_mem _ he)
    simp only [PyData.showableAll, PyData.canLayAll0, PyData.depthAll, PyData.weightAll, PyData.intsShortAll, Bool.and_eq_true, List.length_cons]
    refine ⟨⟨a.sh, b1⟩, ⟨a.c, b2⟩, Nat.max_le.mpr ⟨a.dp, b3⟩, ?_, a.si, b5⟩
    have := a.wt
    rw [Nat.succ_mul]
    omega
theorem sb_lst {n w : Nat} {ds : List PyData} (h : ∀ d ∈ ds, Sb d n w) : Sb (.list ds) (n + 1) (ds.length * (w + 1)) := by
  obtain ⟨b1, b2, b3, b4, b5⟩ := sb_all h
  exact ⟨by simp only [PyData.showable]; exact b1, by simp only [PyData.canLay0]; exact b2, by simp only [PyData.depth]; omega, by simp only [PyData.weight]; exact b4, by simp only [PyData.intsShort]; exact b5⟩
theorem sb_tup {n w : Nat} {ds : List PyData} (h : ∀ d ∈ ds, Sb d n w) : Sb (.tuple ds) (n + 1) (ds.length * (w + 1)) := by
  obtain ⟨b1, b2, b3, b4, b5⟩ := sb_all h
  exact ⟨by simp only [PyData.showable]; exact b1, by simp only [PyData.canLay0]; exact b2, by simp only [PyData.depth]; omega, by simp only [PyData.weight]; exact b4, by simp only [PyData.intsShort]; exact b5⟩
theorem Sb.len {d : PyData} {n w : Nat} (h : Sb d n w) (hw : w ≤ 100000) : d.shown.length ≤ sizeLine := by
  have h2 := PyData.shown_le 20 (by decide) d (PyData.leavesShort_of_canLay0 20 d h.c h.si)
  have e : sizeLine = 16777216 := by decide
  have := h.wt
  omega
section
variable {K : PySem.W.Frag} {M : EC → Addr} {W : WX} {ps : Kn} {te ta tb : TE}
theorem je_reprB {d : PyData} {n w : Nat} (h : JD K M W te ps d) (hr : (∃ ds, d = .list ds) ∨ ∃ ds, d = .tuple ds) (s : Sb d n w) (hn : n ≤ 60 := by decide) (hw : w ≤ 100000 := by decide) : JD K M W (tCB (rRepr K) (tCons te tNil)) ps (.str d.shown) :=
  je_repr h hr s.sh (PyData.hasDict_of_canLay d s.c) (Nat.le_trans s.dp hn) (s.len hw)
theorem je_isN {d : PyData} {b : Bool} (ha : JD K M W ta ps d) (hn : (d ≠ .none ∧ b = false) ∨ (d = .none ∧ b = true)) : JD K M W (tOp rIsN ta (tC .non)) ps (.bool b) := fun σ F H Q fh S k => ha.go fh S fun v F' H' g p => by
  refine ⟨rfl, ?_⟩
  have e : decide (v = V.non) = b := by
    rcases hn with ⟨h1, rfl⟩ | ⟨rfl, rfl⟩
    · refine decide_eq_false fun z => ?_
      subst z
      cases p
      exact h1 rfl
    · cases p
      rfl
  rw [e]
  exact k _ F' H' g (.bl b)
/-- a, b, c = x, y, z -/
theorem js_par3 {i j l : Nat} {P R S' : PV} {tr : TA} (h : JA K M W tr ps [P, R, S']) : JS K M W (tPar3 i j l tr) ps (.nx (((ps.set i (some P)).set j (some R)).set l (some S'))) := fun D σ F H fh S k => h σ F H _ fh S fun us F1 H1 e1 a => by
  cases a with
  | cons p a =>
    obtain ⟨v, u, rfl, q, r⟩ := allP2 a
    exact ⟨_, v, u, rfl, k _ F1 H1 e1 ((((S.mono e1.ff).set i p).set j q).set l r)⟩
/-- isinstance of a tuple -/
theorem je_isTp {ds : List PyData} {T : String} {b : Bool} (h : JD K M W te ps (.tuple ds)) (hT : kitB "tuple" T = some b) : JD K M W (tCB (rIsi K) (tCons te (tCons (tC (.ty T)) tNil))) ps (.bool b) := je_cb (ja_cons h (ja_cons je_x ja_nil)) fun vs F H fh a Q k => by
  obtain ⟨v, u, rfl, p, q⟩ := allP2 a
  obtain ⟨o, xs, rfl, hs, hd⟩ := dp_tup p
  rw [show u = V.ty T from q]
  have ty : TyX K H (.ref o) (.type "tuple") := by
    rcases ex_t fh hs with (z | ⟨ob, z⟩) | ⟨ob, its, n, z, c, _⟩
    · exact .base (.tup z)
    · exact .fTuple z
    · exact .kTuple z c
  exact ⟨.ref o, .ty T, .type "tuple", .type T, b, rfl, .ty T, ty, kit_ty hT, k _ F H (Gr.refl fh) (.bl b)⟩
end
end EB

/-! EB27: sorted of a list of data (ints, texts, tuples of such), repr of any data. -/
namespace EB
open PySem PySem.Spec PyProof.Rows L2 Evl PySem.W
def dLt (x y : PyData) : Bool := PyProof.Rows.lexLt itemOrd (keyToks x) (keyToks y)
/-- sorted(xs), items told as data: the items and what each is, in order -/
def rSortedD (K : PySem.W.Frag) : List V → Hp → VK → Prop := fun vs H Q => ∃ (a : Addr) (zs : List (V × PyData)), vs = [V.ref a] ∧ SqL K H a (zs.map (·.1)) ∧ (∀ z ∈ zs, Dp K H z.1 z.2) ∧ AllAlike (zs.map (·.2)) ∧ Sortable (zs.map (·.2)) ∧ (∀ z ∈ zs, z.2.depth ≤ 60) ∧
  ∀ (ys : List (V × PyData)) (p : Addr), ys.Perm zs → ys.Pairwise (fun x y => dLt y.2 x.2 = false) → H p = none → Q (.ref p) (upd H p (.lst (ys.map (·.1))))
theorem each_of {α β : Type} {R : α → β → Prop} : ∀ {as : List α} {bs : List β}, as.length = bs.length → (∀ (i : Nat) (a : α) (b : β), as[i]? = some a → bs[i]? = some b → R a b) → EachIs R as bs
  | [], [], _, _ => .nil
  | [], _ :: _, h, _ => by simp at h
  | _ :: _, [], h, _ => by simp at h
  | a :: as, b :: bs, h, f => .cons (f 0 a b rfl rfl) (each_of (by simpa using h) fun i x y hx hy => f (i + 1) x y (by simpa using hx) (by simpa using hy))
theorem each_vals : ∀ {us : List Value} {ys : List (V × PyData)}, EachIs (fun u (z : V × PyData) => RelV z.1 u) us ys → Vals (ys.map (·.1)) us
  | _, _, .nil => .nil
  | _, _, .cons h t => .cons h (each_vals t)
theorem cr_sortedD {X : Cx} {k : Nat} (room : Room k X.A) : CallR X (.builtin "sorted") (rSortedD X.K) := by
  intro pins s σ H vs us Q I rv want
  obtain ⟨a, zs, rfl, hs, hd, hal, hk, hdp, q⟩ := want
  obtain rfl := Vals.ref1 rv
  obtain ⟨its, rits, pl, hz⟩ := I.list hs
  have len : its.length = zs.length := by
    have := rits.length
    rw [List.length_map] at this
    exact this.symm
  have e1 : EachIs (fun u (z : V × PyData) => RelV z.1 u) its zs := each_of len fun i u z hu hz2 => by
    obtain ⟨u2, h1, h2⟩ := rits.get (i := i) (x := z.1) (by rw [List.getElem?_map, hz2] <;> rfl)
    rw [hu] at h1
    cases h1
    exact h2
  have e2 : EachIs (fun u (z : V × PyData) => ∃ as, Reads s.heap u z.2 as) its zs := each_of len fun i u z hu hz2 => by
    obtain ⟨u2, h1, h2⟩ := rits.get (i := i) (x := z.1) (by rw [List.getElem?_map, hz2] <;> rfl)
    rw [hu] at h1
    cases h1
    exact Dp.reads I z.2 z.1 u (hd z (List.mem_of_getElem? hz2)) h2
  have un := room.un
  refine sorted_data (enc := fun z : V × PyData => z.2) pl.isList e1 e2 hal hk (by rw [← len, ← rits.length]; exact hz) (fun z hz2 => by have := hdp z hz2; omega) fun out hl he => ?_
  obtain ⟨ep, got⟩ := sortedAll_at s.heap its out.toArray
  have pm := List.mergeSort_perm zs (dataLe false fun z : V × PyData => z.2)
  have srt := List.pairwise_mergeSort (le := dataLe false fun z : V × PyData => z.2) (sortLe_total (listOrd itemOrd) false (fun z : V × PyData => keyToks z.2)).trans (fun x y => by rw [Bool.or_eq_true]; exact (sortLe_total (listOrd itemOrd) false (fun z : V × PyData => keyToks z.2)).total x y) zs
  have rel := each_vals he
  refine ⟨.ref _, upd H (s.heap.objs.size + 1) (.lst ((zs.mergeSort (dataLe false fun z : V × PyData => z.2)).map (·.1))), I.laid (t' := s.toks) (fun _ _ => sortedAll_old) (Nat.le_succ _) ⟨by rw [List.length_map, pm.length_eq, ← len, ← rits.length]; exact hz, out, ep, rel, got⟩, rfl, q _ _ pm (srt.imp fun {x y} h => ?_) (I.hok.fresh (Nat.le_succ _))⟩
  have h2 : (!PyProof.Rows.lexLt itemOrd (keyToks y.2) (keyToks x.2)) = true := h
  rw [Bool.not_eq_true'] at h2
  exact h2
/-! ### a tuple sorted -/
section
variable {prog : Program} {w : World} {A : Around} {E : Value → Shared → Prop} {s : Shared}
theorem collect_tup {p : Addr} {us : List Value} {R : List Value → Shared → Prop} (ht : IsTup s.heap p us.toArray) (sz : us.length ≤ sizeLine) (k : R us { s with heap := (s.heap.push (seqObj "list" #[] 0)).update s.heap.objs.size (Obj.mapSeq (· ++ us.toArray)) }) : wpAny (model prog w) A (collect (.ref p)) R E s := by
  obtain ⟨ob, at_, cl, n, dt⟩ := id ht
  have new0 : (s.heap.push (seqObj "list" #[] 0)).get? s.heap.objs.size = some (seqObj "list" #[] 0) := Heap.get?_push_size _ rfl
  have at2 := Heap.get?_push_of_some (seqObj "list" #[] 0) at_
  unfold collect; refine wpAny_bind (wpAny_runValue (codeAny_builtin entry_proto_collect' ?_))
  refine (show wpAny _ _ (do again (.builtin "list.__iadd__" ⟨[← newList [], .ref p], []⟩)) _ _ s from wpAny_bind (wpAny_newList (wpAny_pure ⟨Code.quiet_builtin _ (by decide +kernel), codeAny_builtin entry_list_iadd' ?_⟩)))
  refine (show wpAny _ _ (Builtin.List.listExtendWith (.ref s.heap.objs.size) (.ref p) (.ref s.heap.objs.size)) _ _ { s with heap := s.heap.push (seqObj "list" #[] 0) } from ?_); unfold Builtin.List.listExtendWith
  refine wpAny_bind (wpAny_typeOf (T := "tuple") ⟨ob, at2, cl⟩ ?_); rw [if_pos (by rw [show (Value.type "tuple" == Value.type "tuple") = true by rfl]; simp)]
  refine wpAny_bind (listItems_at at2 dt (wpAny_bind (listItems_at (xs := #[]) (n := 0) new0 rfl ?_))); rw [if_neg (by simp)]
  refine wpAny_bind (listUpdate_at (xs := #[]) (n := 0) new0 rfl (wpAny_pure ?_) (Nat.zero_le _) (by show (#[] ++ us.toArray).size ≤ sizeLine + 1; simp only [Array.size_append, List.size_toArray, List.length_nil]; omega))
  refine (show wpAny (model prog w) A (do let o ← load s.heap.objs.size; match o.data with | .seq xs _ => pure xs.toList | _ => unsupported "internal:collect") R E { s with heap := (s.heap.push (seqObj "list" #[] 0)).update s.heap.objs.size (Obj.mapSeq (· ++ us.toArray)) } from wpAny_bind (wpAny_load (get?_update_seq new0 _) ?_))
  refine (show wpAny _ _ (pure ((#[] : Array Value) ++ us.toArray).toList) R E _ from ?_); rw [show ((#[] : Array Value) ++ us.toArray).toList = us by simp]; exact wpAny_pure k
theorem sorted_tup {p : Addr} {us : List Value} {zs : List (V × PyData)} {R : Value → Shared → Prop} (ht : IsTup s.heap p us.toArray) (sz : us.length ≤ sizeLine) (e1 : EachIs (fun u (z : V × PyData) => RelV z.1 u) us zs) (e2 : EachIs (fun u (z : V × PyData) => ∃ as, Reads s.heap u z.2 as) us zs)
    (hal : AllAlike (zs.map (·.2))) (hk : Sortable (zs.map (·.2))) (hu : ∀ z ∈ zs, A.units + 2 + z.2.depth < cLine) (k : ∀ out : List Value, EachIs (fun u (z : V × PyData) => RelV z.1 u) out (zs.mergeSort (dataLe false fun z : V × PyData => z.2)) → R (.ref (s.heap.objs.size + 1)) { s with heap := sortedAll s.heap us out.toArray }) :
    wpAny (model prog w) A (call (.builtin "sorted") [.ref p]) R E s := by
  refine call_function_entry_kw kind_sorted plain_sorted entry_sorted (args_sorted1 _) ?_; unfold Builtin.«sorted»
  refine wpAny_bind (m := checkCount "sorted" 1 1 _) (wpAny_pure (wpAny_bind (collect_tup ht sz (wpAny_bind (wpAny_newList ?_ sz)))))
  have size2 : ((s.heap.push (seqObj "list" #[] 0)).update s.heap.objs.size (Obj.mapSeq (· ++ us.toArray))).objs.size = s.heap.objs.size + 1 := by rw [Heap.size_update]; exact size_push' ..
  have e3 : EachIs (fun u (z : V × PyData) => ∃ as, Reads (sortingHeap (copyHeap s.heap us) (s.heap.objs.size + 1) us) u z.2 as) us zs := e2.mono fun _ _ ⟨as, r⟩ => ⟨as, PyProof.Rows.Reads.keeps (fun _ _ => sorting_copy_old) r⟩
  refine (show wpAny _ _ _ _ _ { s with heap := copyHeap s.heap us } from ?_); rw [size2]
  refine wpAny_bind (wpAny_holding (wpAny_call_entry_kw slot_list_sort ⟨_, copyHeap_at s.heap us, rfl⟩ entry_list_sort (wpAny_mono (list_sort_vals (P := fun f s' => f = .done (.ret .none) ∧ R (.ref (s.heap.objs.size + 1)) s') (s := { s with heap := copyHeap s.heap us }) (copyHeap_at s.heap us)
    (SortsAt.data (s := { s with heap := sortingHeap (copyHeap s.heap us) (s.heap.objs.size + 1) us }) (each_map (R := fun v d => ∃ as, Reads (sortingHeap (copyHeap s.heap us) (s.heap.objs.size + 1) us) v d as) (fun z : V × PyData => z.2) e3) hal hk (bound_map hu)) sz ⟨rfl, k _ (sortVals_data false e1 e3 hal)⟩) (fun f s' hf => ?_) fun _ _ z => z) (args_list_sort _)))
  obtain ⟨rfl, done⟩ := hf
  exact ⟨_, rfl, wpAny_pure ⟨_, rfl, done⟩⟩
end
def rSortedTD (K : PySem.W.Frag) : List V → Hp → VK → Prop := fun vs H Q => ∃ (a : Addr) (zs : List (V × PyData)), vs = [V.ref a] ∧ SqT K H a (zs.map (·.1)) ∧ (∀ z ∈ zs, Dp K H z.1 z.2) ∧ AllAlike (zs.map (·.2)) ∧ Sortable (zs.map (·.2)) ∧ (∀ z ∈ zs, z.2.depth ≤ 60) ∧
  ∀ (ys : List (V × PyData)) (p : Addr), ys.Perm zs → ys.Pairwise (fun x y => dLt y.2 x.2 = false) → H p = none → Q (.ref p) (upd H p (.lst (ys.map (·.1))))
theorem cr_sortedTD {X : Cx} {k : Nat} (room : Room k X.A) : CallR X (.builtin "sorted") (rSortedTD X.K) := by
  intro pins s σ H vs us Q I rv want
  obtain ⟨a, zs, rfl, hs, hd, hal, hk, hdp, q⟩ := want
  obtain rfl := Vals.ref1 rv
  obtain ⟨its, rits, pl, hz⟩ := I.tuple hs
  have len : its.length = zs.length := by
    have := rits.length
    rw [List.length_map] at this
    exact this.symm
  have e1 : EachIs (fun u (z : V × PyData) => RelV z.1 u) its zs := each_of len fun i u z hu hz2 => by
    obtain ⟨u2, h1, h2⟩ := rits.get (i := i) (x := z.1) (by rw [List.getElem?_map, hz2] <;> rfl)
    rw [hu] at h1
    cases h1
    exact h2
  have e2 : EachIs (fun u (z : V × PyData) => ∃ as, Reads s.heap u z.2 as) its zs := each_of len fun i u z hu hz2 => by
    obtain ⟨u2, h1, h2⟩ := rits.get (i := i) (x := z.1) (by rw [List.getElem?_map, hz2] <;> rfl)
    rw [hu] at h1
    cases h1
    exact Dp.reads I z.2 z.1 u (hd z (List.mem_of_getElem? hz2)) h2
  have un := room.un
  refine sorted_tup pl (by rw [← rits.length]; exact hz) e1 e2 hal hk (fun z hz2 => by have := hdp z hz2; omega) fun out he => ?_
  obtain ⟨ep, got⟩ := sortedAll_at s.heap its out.toArray
  have pm := List.mergeSort_perm zs (dataLe false fun z : V × PyData => z.2)
  have srt := List.pairwise_mergeSort (le := dataLe false fun z : V × PyData => z.2) (sortLe_total (listOrd itemOrd) false (fun z : V × PyData => keyToks z.2)).trans (fun x y => by rw [Bool.or_eq_true]; exact (sortLe_total (listOrd itemOrd) false (fun z : V × PyData => keyToks z.2)).total x y) zs
  refine ⟨.ref _, upd H (s.heap.objs.size + 1) (.lst ((zs.mergeSort (dataLe false fun z : V × PyData => z.2)).map (·.1))), I.laid (t' := s.toks) (fun _ _ => sortedAll_old) (Nat.le_succ _) ⟨by rw [List.length_map, pm.length_eq, ← len, ← rits.length]; exact hz, out, ep, each_vals he, got⟩, rfl, q _ _ pm (srt.imp fun {x y} h => ?_) (I.hok.fresh (Nat.le_succ _))⟩
  have h2 : (!PyProof.Rows.lexLt itemOrd (keyToks y.2) (keyToks x.2)) = true := h
  rw [Bool.not_eq_true'] at h2
  exact h2
/-- repr of any data -/
def rReprV (K : PySem.W.Frag) : List V → Hp → VK → Prop := fun xs H Q => ∃ (v : V) (d : PyData), xs = [v] ∧ Dp K H v d ∧ d.showable = true ∧ d.hasDict = false ∧ d.depth ≤ 60 ∧ d.shown.length ≤ sizeLine ∧ Q (.str d.shown) H
theorem cr_reprV {X : Cx} {k : Nat} (room : RoomG k X.A) : CallR X (.builtin "repr") (rReprV X.K) := by
  intro pins s σ H xs us Q I rv want
  obtain ⟨v, d, rfl, hd, sh, nd, dp, sz, q⟩ := want
  obtain ⟨u, rfl, ru⟩ := vals1 rv
  obtain ⟨as, rd⟩ := Dp.reads I d v u hd ru
  have un := room.rm.un
  have byRef : ∀ a : Addr, v = .ref a → wpAny (model X.prog X.w) X.A (call (.builtin "repr") [u]) (EP X pins σ Q) X.xe s := fun a e => by
    subst e
    obtain rfl : u = Value.ref a := ru
    exact repr_of_reads' rd sh (fun z => by rw [nd] at z; cases z) room.gd (by omega) (fun b o z => z) (fun h' u tk kept => ⟨.str d.shown, H, I.kept (t' := tk) kept, ⟨_, rfl⟩, q⟩) sz
  cases hd with
  | non =>
    obtain rfl : u = Value.none := ru
    exact PySem.P.repr_of_none ⟨.str "None", H, I.tok _, ⟨_, rfl⟩, q⟩
  | bl b =>
    obtain rfl : u = Value.bool b := ru
    exact PySem.P.repr_of_bool ⟨.str (if b then "True" else "False"), H, I.tok _, ⟨_, rfl⟩, q⟩
  | int i =>
    obtain ⟨t, rfl⟩ := ru
    exact PySem.P.repr_of_int (by simpa [PyData.showable] using sh) ⟨.str (toString i), H, I.tok _, ⟨_, rfl⟩, q⟩
  | str x =>
    obtain ⟨t, rfl⟩ := ru
    exact PySem.P.repr_of_str ⟨.str (reprText x), H, I.tok _, ⟨_, rfl⟩, q⟩ sz
  | lst h a => exact byRef _ rfl
  | tup h a => exact byRef _ rfl
section
variable {K : PySem.W.Frag} {M : EC → Addr} {W : WX} {ps : Kn} {te ta tb : TE}
theorem je_reprV {d : PyData} {n w : Nat} (h : JD K M W te ps d) (s : Sb d n w) (hn : n ≤ 60 := by decide) (hw : w ≤ 100000 := by decide) : JD K M W (tCB (rReprV K) (tCons te tNil)) ps (.str d.shown) := je_cb (ja_cons h ja_nil) fun vs F H fh b Q k => by
  obtain ⟨v, rfl, p⟩ := allP1 b
  exact ⟨v, d, rfl, dp_mono fh p, s.sh, PyData.hasDict_of_canLay d s.c, Nat.le_trans s.dp hn, s.len hw, k _ F H (Gr.refl fh) (.str _)⟩
theorem dpZip {F : Hp} : ∀ {us : List V} {ds : List PyData}, DpAll K F us ds → ∃ zs : List (V × PyData), zs.map (·.1) = us ∧ zs.map (·.2) = ds ∧ ∀ z ∈ zs, Dp K F z.1 z.2
  | _, _, .nil => ⟨[], rfl, rfl, fun z hz => by cases hz⟩
  | _, _, .cons (v := v) (d := d) h t => by
    obtain ⟨zs, a, b, c⟩ := dpZip t
    exact ⟨(v, d) :: zs, by rw [List.map_cons, a], by rw [List.map_cons, b], fun z hz => by
      rcases List.mem_cons.mp hz with rfl | q
      · exact h
      · exact c z q⟩
theorem dpUnzip {F : Hp} : ∀ {zs : List (V × PyData)}, (∀ z ∈ zs, Dp K F z.1 z.2) → DpAll K F (zs.map (·.1)) (zs.map (·.2))
  | [], _ => .nil
  | z :: r, h => .cons (h z List.mem_cons_self) (dpUnzip fun y hy => h y (List.mem_cons_of_mem _ hy))
theorem dsort_one : ∀ {xs ys : List PyData}, xs.Perm ys → xs.Pairwise (fun x y => dLt y x = false) → ys.Pairwise (fun x y => dLt x y = true) → xs = ys
  | [], ys, h, _, _ => by rw [List.nil_perm.mp h]
  | x :: xs, [], h, _, _ => absurd h.length_eq (by simp)
  | x :: xs, y :: ys, h, h1, h2 => by
    obtain ⟨a1, a2⟩ := List.pairwise_cons.mp h1
    obtain ⟨b1, b2⟩ := List.pairwise_cons.mp h2
    have e : x = y := by
      rcases List.mem_cons.mp (h.mem_iff.mp (List.mem_cons_self (a := x) (l := xs))) with z | z
      · exact z
      · rcases List.mem_cons.mp (h.mem_iff.mpr (List.mem_cons_self (a := y) (l := ys))) with w | w
        · exact w.symm
        · have := a1 y w
          rw [b1 x z] at this
          cases this
    subst e
    rw [dsort_one (List.Perm.cons_inv h) a2 b2]
theorem je_sortD {xs ys : List PyData} (h : JD K M W te ps (.list xs)) (hp : xs.Perm ys) (hs : ys.Pairwise (fun x y => dLt x y = true)) (hal : AllAlike xs) (hk : Sortable xs) (hd : ∀ d ∈ xs, d.depth ≤ 60) : JD K M W (tCB (rSortedD K) (tCons te tNil)) ps (.list ys) := je_cb (ja_cons h ja_nil) fun vs F H fh b Q k => by
  obtain ⟨v, rfl, p⟩ := allP1 b
  obtain ⟨a, us, rfl, hu, al⟩ := dp_lst p
  obtain ⟨zs, z1, z2, z3⟩ := dpZip al
  refine ⟨a, zs, rfl, by rw [z1]; exact ex_l fh hu, fun z hz => dp_mono fh (z3 z hz), by rw [z2]; exact hal, by rw [z2]; exact hk, fun z hz => hd _ (by rw [← z2]; exact List.mem_map.mpr ⟨z, hz, rfl⟩), fun ws q pm pw hq => k _ _ _ (Gr.new fh hq) (.lst (sq_of upd_same) ?_)⟩
  have e : ws.map (·.2) = ys := dsort_one ((pm.map _).trans (by rw [z2]; exact hp)) (List.pairwise_map.mpr pw) hs
  rw [← e]
  exact dpAll_mono (Gr.new (o := .lst (ws.map (·.1))) fh hq).ff (dpUnzip fun z hz => z3 z (pm.mem_iff.mp hz))
theorem je_sortTD {xs ys : List PyData} (h : JD K M W te ps (.tuple xs)) (hp : xs.Perm ys) (hs : ys.Pairwise (fun x y => dLt x y = true)) (hal : AllAlike xs) (hk : Sortable xs) (hd : ∀ d ∈ xs, d.depth ≤ 60) : JD K M W (tCB (rSortedTD K) (tCons te tNil)) ps (.list ys) := je_cb (ja_cons h ja_nil) fun vs F H fh b Q k => by
  obtain ⟨v, rfl, p⟩ := allP1 b
  obtain ⟨a, us, rfl, hu, al⟩ := dp_tup p
  obtain ⟨zs, z1, z2, z3⟩ := dpZip al
  refine ⟨a, zs, rfl, by rw [z1]; exact ex_t fh hu, fun z hz => dp_mono fh (z3 z hz), by rw [z2]; exact hal, by rw [z2]; exact hk, fun z hz => hd _ (by rw [← z2]; exact List.mem_map.mpr ⟨z, hz, rfl⟩), fun ws q pm pw hq => k _ _ _ (Gr.new fh hq) (.lst (sq_of upd_same) ?_)⟩
  have e : ws.map (·.2) = ys := dsort_one ((pm.map _).trans (by rw [z2]; exact hp)) (List.pairwise_map.mpr pw) hs
  rw [← e]
  exact dpAll_mono (Gr.new (o := .lst (ws.map (·.1))) fh hq).ff (dpUnzip fun z hz => z3 z (pm.mem_iff.mp hz))
end
end EB

/-! EB28: the text that repr tells is a text that == compares; ints and tuples of them in order. -/
namespace EB
open PySem PySem.Spec PyProof.Rows L2 Evl PySem.W
theorem strOk_of {x : Str} (h : ∀ k, 0x110000 ≤ k → k ∉ x.cps.toList) : PyData.strOk x = true := by
  unfold PyData.strOk
  rw [Array.all_eq_true_iff_forall_mem]
  intro k hk
  refine decide_eq_true ?_
  rcases Nat.lt_or_ge k 0x110000 with q | q
  · exact q
  · exact absurd (Array.mem_toList_iff.mpr hk) (h k q)
theorem big_int {k : Nat} (hk : 0x110000 ≤ k) (i : Int) : k ∉ (PyData.int i).shown.cps.toList := shown_int_free' ⟨by omega, .inr (by omega)⟩ i
theorem big_none {k : Nat} (hk : 0x110000 ≤ k) : k ∉ (PyData.none).shown.cps.toList := by
  rw [PyData.shown_none]
  have e : (("None" : String) : Str).cps.toList = [78, 111, 110, 101] := by decide
  rw [e]
  intro hm
  simp only [List.mem_cons, List.not_mem_nil, or_false] at hm
  omega
theorem big_tup {k : Nat} (hk : 0x110000 ≤ k) {xs : List PyData} (h : ∀ x ∈ xs, k ∉ x.shown.cps.toList) : k ∉ (PyData.tuple xs).shown.cps.toList := by
  rw [PyData.shown_tuple, mem_cps_append, mem_cps_append, signs_lparen, mem_join, signs_tuple_end]
  rintro ((hm | (⟨t, ht, hc⟩ | ⟨_, hm⟩)) | hm)
  · simp only [List.mem_cons, List.not_mem_nil, or_false] at hm
    omega
  · exact shownAll_free h t ht hc
  · rw [signs_sep] at hm
    simp only [List.mem_cons, List.not_mem_nil, or_false] at hm
    omega
  · split at hm <;> simp only [List.mem_cons, List.not_mem_nil, or_false] at hm <;> omega
/-! ### order -/
theorem dLt_int (a b : Int) : dLt (.int a) (.int b) = decide (a < b) := dataLt_int a b
theorem dLt_tupI (xs ys : List Int) : dLt (.tuple (xs.map .int)) (.tuple (ys.map .int)) = decide (xs < ys) := (dataLt_tuple _ _).trans (dataLt_ints xs ys)
theorem alike_int (xs : List Int) : AllAlike (xs.map PyData.int) := AllAlike.of fun a b => by simp [alike]
theorem sortable_int (xs : List Int) : Sortable (xs.map PyData.int) := Sortable.others fun b => ⟨by simp, by simp⟩
theorem alike_tupI (xs : List (List Int)) : AllAlike (xs.map fun x => PyData.tuple (x.map .int)) := AllAlike.of fun a b => by
  rw [alike]
  exact alike_ints a b
theorem depth_tupI (x : List Int) : (PyData.tuple (x.map .int)).depth ≤ 60 := by
  simp only [PyData.depth]
  rw [depth_ints]
  decide
end EB

/-! EB29: a list made anew by two for's; a list of one's own that is forgotten again; turned around in place. -/
namespace EB
open PySem PySem.Spec PyProof.Rows L2 Evl
section
variable {K : PySem.W.Frag} {M : EC → Addr} {W : WX} {ps qs rs : Kn} {te ti : TE} {ts tu : TS} {t : TT} {vs : List Nat} {ds es : List PyData}
/-- [e for x in ds for y in (those of x) if b], made anew -/
theorem jn_lc2 {α β : Type} {wi wi1 : TI} {g g1 : TG} {u : TT} {vs1 : List Nat} (xs : List α) (ys : α → List β) (enc : α → PyData) (enc1 : β → PyData) (b : α → β → Bool) (e : α → β → PyData) {W' : WX} (hi : JI K M W wi ps (xs.map enc))
    (hlen : (xs.flatMap fun x => ((ys x).filter (b x)).map (e x)).length ≤ 90000)
    (hs : ∀ x ∈ xs, ∃ qs, JG vs g (wipeK ps vs) (dv K (enc x)) qs ∧ JT K M W' t qs true ∧ JI K M W' wi1 qs ((ys x).map enc1) ∧
      ∀ y ∈ ys x, ∃ rs, JG vs1 g1 (wipeK qs vs1) (dv K (enc1 y)) rs ∧ JT K M W' u rs (b x y) ∧ (b x y = true → JD K M W' te rs (e x y))) :
    JN K (tLc2 wi g t wi1 g1 u te vs vs1) ps (xs.flatMap fun x => ((ys x).filter (b x)).map (e x)) := fun σ F H Q fh S k => hi σ F H _ fh S fun J F1 H1 e1 it D hD => by
  let out : α → List PyData := fun x => ((ys x).filter (b x)).map (e x)
  refine ⟨fun i n H' => n = xs.length - i ∧ i ≤ xs.length ∧ ∃ F', Acc K D F1 H1 F' H' ((xs.take i).flatMap out), ⟨xs.length, by omega, Nat.zero_le _, F1, Acc.start e1.fh hD⟩, ?_⟩
  rintro i n H' ⟨rfl, him, F2, A⟩
  by_cases hlt : i < xs.length
  · have hx : xs[i]? = some xs[i] := List.getElem?_eq_getElem hlt
    have hmem : xs[i] ∈ xs := List.getElem_mem hlt
    have hex : (xs.map enc)[i]? = some (enc xs[i]) := by rw [List.getElem?_map, hx] <;> rfl
    refine .inr ⟨it.go i H' (A.gr.ff.trans A.gr.fh) (by rw [List.length_map]; exact hlt), fun H3 => ∃ F3, Acc K D F1 H1 F3 H3 ((xs.take (i + 1)).flatMap out), fun H3 q => ⟨xs.length - (i + 1), by omega, rfl, hlt, q⟩, fun x H3 y => ?_⟩
    obtain ⟨F3, e3, dx⟩ := it.yld i _ F2 H' x H3 A.gr.ff A.gr.fh hex y
    have A3 := A.step e3
    obtain ⟨qs, hg, ht, hi1, hin⟩ := hs xs[i] hmem
    refine hg x (wipe σ vs) F3 H3 _ e3.fh ((S.mono (e1.ff.trans A3.gr.ff)).wipe vs) dx fun σ4 F4 H4 e4 S4 u4 => ⟨wipe_upto (upto_wipe.trans u4), ht σ4 F4 H4 _ e4.fh S4 fun F5 H5 e5 => ?_⟩
    have A5 := (A3.step e4).step e5
    show wi1 σ4 H5 _
    refine hi1 σ4 F5 H5 _ e5.fh (S4.mono e5.ff) fun J1 F6 H6 e6 it1 => ?_
    have A6 := A5.step e6
    have pre := flatMap_take_le out xs (i + 1)
    rw [flatMap_take_succ hx, List.length_append] at pre
    refine ⟨fun j n H' => n = (ys xs[i]).length - j ∧ j ≤ (ys xs[i]).length ∧ ∃ F', Ex F6 F' ∧ Acc K D F1 H1 F' H' ((xs.take i).flatMap out ++ (((ys xs[i]).take j).filter (b xs[i])).map (e xs[i])), ⟨(ys xs[i]).length, by omega, Nat.zero_le _, F6, Ex.refl _, by simpa using A6⟩, ?_⟩
    rintro j n H7 ⟨rfl, hj, F7, x67, A7⟩
    by_cases hjl : j < (ys xs[i]).length
    · have hy : (ys xs[i])[j]? = some (ys xs[i])[j] := List.getElem?_eq_getElem hjl
      have ymem : (ys xs[i])[j] ∈ ys xs[i] := List.getElem_mem hjl
      have hey : ((ys xs[i]).map enc1)[j]? = some (enc1 (ys xs[i])[j]) := by rw [List.getElem?_map, hy] <;> rfl
      refine .inr ⟨it1.go j H7 (x67.trans A7.gr.fh) (by rw [List.length_map]; exact hjl), fun H8 => ∃ F8, Ex F6 F8 ∧ Acc K D F1 H1 F8 H8 ((xs.take i).flatMap out ++ (((ys xs[i]).take (j + 1)).filter (b xs[i])).map (e xs[i])), fun H8 q => ⟨(ys xs[i]).length - (j + 1), by omega, rfl, hjl, q⟩, fun x1 H8 y1 => ?_⟩
      obtain ⟨F8, e8, dy⟩ := it1.yld j _ F7 H7 x1 H8 x67 A7.gr.fh hey y1
      have A8 := A7.step e8
      obtain ⟨rs, hg1, ht1, he1⟩ := hin _ ymem
      refine hg1 x1 (wipe σ4 vs1) F8 H8 _ e8.fh ((S4.mono ((e5.ff.trans e6.ff).trans (x67.trans e8.ff))).wipe vs1) dy fun σ9 F9 H9 e9 S9 u9 => ⟨wipe_upto (upto_wipe.trans u9), ht1 σ9 F9 H9 _ e9.fh S9 fun Fa Ha ea => ?_⟩
      have Aa := (A8.step e9).step ea
      have ff := filter_take_succ (b := b xs[i]) hy
      have pre2 : (((ys xs[i]).take j).filter (b xs[i])).length ≤ ((ys xs[i]).filter (b xs[i])).length := by
        conv => rhs; rw [← List.take_append_drop j (ys xs[i])]
        rw [List.filter_append, List.length_append]
        omega
      have lout : (out xs[i]).length = ((ys xs[i]).filter (b xs[i])).length := List.length_map _
      cases hb : b xs[i] (ys xs[i])[j] with
      | true =>
        rw [hb] at ff
        show te σ9 Ha _
        refine (he1 hb).go ea.fh (S9.mono ea.ff) fun v Fb Hb eb p => ?_
        have Ab := Aa.step eb
        obtain ⟨acc, hb6, _⟩ := Ab.at_
        refine ⟨acc, hb6, sz_lt ?_, Fb, ((x67.trans e8.ff).trans e9.ff).trans (ea.ff.trans eb.ff), ?_⟩
        · rw [Ab.len hb6, List.length_append, List.length_map]
          have h1 : (xs.flatMap out).length ≤ 90000 := hlen
          omega
        · rw [ff, List.map_append, ← List.append_assoc]
          exact Ab.app hD hb6 p
      | false =>
        rw [hb] at ff
        show ∃ F8, Ex F6 F8 ∧ Acc K D F1 H1 F8 Ha _
        rw [ff]
        simp only [Bool.false_eq_true, if_false, List.append_nil]
        exact ⟨Fa, ((x67.trans e8.ff).trans e9.ff).trans ea.ff, Aa⟩
    · have hem : j = (ys xs[i]).length := by omega
      subst hem
      rw [List.take_length] at A7
      refine .inl ⟨it1.stop _ H7 (x67.trans A7.gr.fh) (by rw [List.length_map]; exact Nat.le_refl _), F7, ?_⟩
      rw [flatMap_take_succ hx]
      exact A7
  · have hem : i = xs.length := by omega
    subst hem
    rw [List.take_length] at A
    exact .inl ⟨it.stop _ H' (A.gr.ff.trans A.gr.fh) (by rw [List.length_map]; exact Nat.le_refl _), k D F2 H' (A.pre e1) (fresh_back e1.hh hD)⟩
/-- xs = e, a list of one's own that the statements behind it write to; known no more afterwards -/
theorem js_ownNx {i : Nat} (he : JN K te ps ds) (h : ∀ D F1 H1, H1 D = none → JL K M W D F1 H1 tu (ps.set i (some (xv (.ref D)))) ds (.nx qs es)) : JS K M W (tSeq (tAsg te (gName i)) tu) ps (.nx qs) := fun Dn σ F H fh S k =>
  he σ F H _ fh S fun D F1 H1 A hD => h D F H hD Dn _ F1 H1 A ((S.mono A.gr.ff).set i rfl) fun σ' F' H' A' e s => k σ' F' H' A'.gr s
/-- a list of one's own that is written to no more: data from here on -/
theorem jl_frz {D : Addr} {F1 H1 : Hp} {i : Nat} {d : PyData} (hi : ps[i]? = some (some (xv (.ref D)))) (hD : H1 D = none) (h : JS K M W tu (ps.set i (some (dv K (.list ds)))) (.rt (dv K d))) : JL K M W D F1 H1 tu ps ds (.rt d) := fun Dn σ F H A S k => by
  obtain ⟨F3, g3, d3, e3⟩ := A.done hD
  refine h Dn σ F3 H g3.fh ⟨by rw [List.length_set]; exact S.1, fun b P hb => ?_⟩ fun v F' H' g p => k v F' H' (g3.trans g) p
  by_cases z : b = i
  · subst z
    have hl : b < ps.length := (List.getElem?_eq_some_iff.mp hi).1
    rw [List.getElem?_set_self hl] at hb
    cases hb
    exact ⟨_, sl_at S hi, d3⟩
  · rw [List.getElem?_set_ne (fun y => z y.symm)] at hb
    exact (S.mono e3).2 b P hb
end
end EB

namespace DC
section
variable {α β : Type}
/-- sums over a list -/
def S (xs : List α) (f : α → Nat) : Nat := (xs.map f).sum
theorem S_nil (f : α → Nat) : S [] f = 0 := rfl
theorem S_cons (x : α) (xs : List α) (f : α → Nat) : S (x :: xs) f = f x + S xs f := by simp [S]
theorem S_app (xs ys : List α) (f : α → Nat) : S (xs ++ ys) f = S xs f + S ys f := by simp [S]
theorem S_add (xs : List α) (f g : α → Nat) : S xs (fun x => f x + g x) = S xs f + S xs g := by
  induction xs with
  | nil => rfl
  | cons a r ih => rw [S_cons, S_cons, S_cons, ih]; omega
theorem S_congr {xs : List α} {f g : α → Nat} (h : ∀ x ∈ xs, f x = g x) : S xs f = S xs g := by
  induction xs with
  | nil => rfl
  | cons a r ih => rw [S_cons, S_cons, h a List.mem_cons_self, ih fun x hx => h x (List.mem_cons_of_mem _ hx)]
theorem S_zero (xs : List α) : S xs (fun _ => 0) = 0 := by
  induction xs with
  | nil => rfl
  | cons a r ih => rw [S_cons, ih]
theorem S_mul (c : Nat) (xs : List α) (f : α → Nat) : S xs (fun x => c * f x) = c * S xs f := by
  induction xs with
  | nil => rfl
  | cons a r ih => rw [S_cons, S_cons, ih, Nat.mul_add]
theorem S_comm (xs : List α) (ys : List β) (f : α → β → Nat) : S xs (fun x => S ys (f x)) = S ys (fun y => S xs fun x => f x y) := by
  induction xs with
  | nil => rw [S_nil, show (fun y => S [] fun x => f x y) = fun _ => 0 from rfl, S_zero]
  | cons a r ih =>
    rw [S_cons, ih, ← S_add]
    exact S_congr fun y _ => by rw [S_cons]
theorem S_one (xs : List α) : S xs (fun _ => 1) = xs.length := by
  induction xs with
  | nil => rfl
  | cons a r ih => rw [S_cons, ih, List.length_cons]; omega
theorem S_filter (xs : List α) (p : α → Bool) (f : α → Nat) : S (xs.filter p) f = S xs (fun x => if p x = true then f x else 0) := by
  induction xs with
  | nil => rfl
  | cons a r ih =>
    rw [List.filter_cons, S_cons]
    cases h : p a with
    | true => rw [if_pos rfl, if_pos rfl, S_cons, ih]
    | false => rw [if_neg (by decide), if_neg (by decide), ih, Nat.zero_add]
theorem S_len (xs : List α) (p : α → Bool) : (xs.filter p).length = S xs (fun x => if p x = true then 1 else 0) := by rw [← S_one, S_filter]
variable [DecidableEq α]
theorem S_point {xs : List α} (h : xs.Nodup) {r : α} (hr : r ∈ xs) (f : α → Nat) : S xs (fun x => if x = r then f x else 0) = f r := by
  induction xs with
  | nil => cases hr
  | cons a t ih =>
    rw [S_cons]
    obtain ⟨h1, h2⟩ := List.nodup_cons.mp h
    rcases List.mem_cons.mp hr with e | e
    · subst e
      have z0 : S t (fun x => if x = r then f x else 0) = S t fun _ => 0 := S_congr fun x hx => if_neg fun (z : x = r) => h1 (z ▸ hx)
      rw [if_pos rfl, z0, S_zero]
      rfl
    · rw [if_neg fun (z : a = r) => h1 (z ▸ e), ih h2 e, Nat.zero_add]
/-- all but one -/
def but (xs : List α) (r : α) : List α := xs.filter fun x => !decide (x = r)
theorem mem_but {xs : List α} {r x : α} : x ∈ but xs r ↔ x ∈ xs ∧ x ≠ r := by
  unfold but
  rw [List.mem_filter]
  simp
theorem S_but (xs : List α) (r : α) (f : α → Nat) : S (but xs r) f = S xs (fun x => if x ≠ r then f x else 0) := by
  unfold but
  rw [S_filter]
  exact S_congr fun x _ => by
    by_cases h : x = r <;> simp [h]
theorem S_but_add {xs : List α} (h : xs.Nodup) {r : α} (hr : r ∈ xs) (f : α → Nat) : S (but xs r) f + f r = S xs f := by
  rw [S_but]
  have := S_point h hr f
  rw [← this, ← S_add]
  exact S_congr fun x _ => by
    by_cases z : x = r <;> simp [z]
theorem but_len {xs : List α} (h : xs.Nodup) {r : α} (hr : r ∈ xs) : (but xs r).length + 1 = xs.length := by
  have := S_but_add h hr fun _ => 1
  rw [S_one, S_one] at this
  exact this
/-- what is on the left of two -/
structure Ori (xs : List α) (g : α → α → α → Bool) : Prop where
  nd : xs.Nodup
  l1 : ∀ p q, g p q p = false
  l2 : ∀ p q, g p q q = false
  op : ∀ p q r, p ∈ xs → q ∈ xs → r ∈ xs → p ≠ q → r ≠ p → r ≠ q → g q p r = !g p q r
variable {xs : List α} {g : α → α → α → Bool}
theorem Ori.but (o : Ori xs g) (r : α) : Ori (but xs r) g where
  nd := List.Pairwise.filter _ o.nd
  l1 := o.l1
  l2 := o.l2
  op := fun p q s hp hq hs => o.op p q s (mem_but.mp hp).1 (mem_but.mp hq).1 (mem_but.mp hs).1
def lf (xs : List α) (g : α → α → α → Bool) (p q : α) : Nat := S xs fun r => if g p q r = true then 1 else 0
def T (xs : List α) (g : α → α → α → Bool) (j : Nat) : Nat := S xs fun p => S xs fun q => if p ≠ q ∧ lf xs g p q = j then 1 else 0
/-- those on the right -/
theorem lf_op (o : Ori xs g) {p q : α} (hp : p ∈ xs) (hq : q ∈ xs) (h : p ≠ q) : lf xs g p q + lf xs g q p + 2 = xs.length := by
  unfold lf
  have h1 := S_point o.nd hp fun _ => 1
  have h2 := S_point o.nd hq fun _ => 1
  rw [← S_one, ← S_add]
  have e : S xs (fun _ => 1) = S xs fun r => ((if g p q r = true then 1 else 0) + (if g q p r = true then 1 else 0)) + ((if r = p then 1 else 0) + (if r = q then 1 else 0)) := S_congr fun r hr => by
    by_cases z1 : r = p
    · subst z1
      rw [o.l1, o.l2]
      simp [h]
    · by_cases z2 : r = q
      · subst z2
        rw [o.l1, o.l2]
        simp [z1]
      · rw [o.op p q r hp hq hr h z1 z2]
        cases g p q r <;> simp [z1, z2]
  rw [e, S_add xs (fun r => (if g p q r = true then 1 else 0) + (if g q p r = true then 1 else 0)), S_add xs (fun r => if r = p then 1 else 0), h1, h2, S_add]
theorem T_sym (o : Ori xs g) {j : Nat} (hj : j + 2 ≤ xs.length) : T xs g j = T xs g (xs.length - 2 - j) := by
  unfold T
  rw [S_comm]
  refine S_congr fun p hp => S_congr fun q hq => ?_
  by_cases h : p = q
  · simp [h]
  · have := lf_op o hp hq h
    have e : (q ≠ p ∧ lf xs g q p = j) ↔ (p ≠ q ∧ lf xs g p q = xs.length - 2 - j) := ⟨fun ⟨_, y⟩ => ⟨h, by omega⟩, fun ⟨_, y⟩ => ⟨fun z => h z.symm, by omega⟩⟩
    simp only [e]
theorem S_range_point {n k : Nat} (h : k < n) : S (List.range n) (fun j => if k = j then 1 else 0) = 1 := by
  have h2 := S_point (List.nodup_range (n := n)) (List.mem_range.mpr h) fun _ => 1
  refine Eq.trans (S_congr fun x _ => ?_) h2
  by_cases z : k = x
  · rw [if_pos z, if_pos z.symm]
  · rw [if_neg z, if_neg fun y => z y.symm]
theorem T_sum (o : Ori xs g) : S (List.range (xs.length - 1)) (T xs g) + xs.length = xs.length * xs.length := by
  unfold T
  rw [S_comm]
  have e : S xs (fun p => S (List.range (xs.length - 1)) fun j => S xs fun q => if p ≠ q ∧ lf xs g p q = j then 1 else 0) = S xs fun p => S xs fun q => if p ≠ q then 1 else 0 := S_congr fun p hp => by
    rw [S_comm]
    refine S_congr fun q hq => ?_
    by_cases h : p = q
    · simp [h, S_zero]
    · have := lf_op o hp hq h
      rw [if_pos h]
      refine Eq.trans (S_congr fun j _ => ?_) (S_range_point (n := xs.length - 1) (k := lf xs g p q) (by omega))
      simp [h]
  rw [e, ← S_one, ← S_add]
  have e2 : S xs (fun p => S xs (fun q => if p ≠ q then 1 else 0) + 1) = S xs fun _ => S xs (fun _ => 1) * 1 := S_congr fun p hp => by
    have := S_but_add o.nd hp fun _ => 1
    rw [S_but] at this
    rw [Nat.mul_one, ← this]
    congr 1
    exact S_congr fun q _ => by
      by_cases z : p = q
      · simp [z]
      · rw [if_pos z, if_pos fun y => z y.symm]
  rw [e2, show (fun _ : α => S xs (fun _ => 1) * 1) = fun _ => S xs (fun _ => 1) * (fun _ => 1) () from rfl]
  have := S_mul (S xs fun _ => 1) xs fun _ => 1
  rw [← this]
theorem lf_but (o : Ori xs g) {p q r : α} (hr : r ∈ xs) : lf (but xs r) g p q + (if g p q r = true then 1 else 0) = lf xs g p q := S_but_add o.nd hr _
/-- each point dropped once -/
theorem T_drop (o : Ori xs g) {j : Nat} (hj : j + 2 ≤ xs.length) : S xs (fun r => T (but xs r) g j) = (xs.length - 2 - j) * T xs g j + (j + 1) * T xs g (j + 1) := by
  have e1 : S xs (fun r => T (but xs r) g j) = S xs fun r => S xs fun p => S xs fun q => if r ≠ p ∧ r ≠ q ∧ p ≠ q ∧ lf (but xs r) g p q = j then 1 else 0 := S_congr fun r hr => by
    unfold T
    rw [S_but]
    refine S_congr fun p hp => ?_
    by_cases h : p = r
    · subst h
      simp [S_zero]
    · rw [if_pos h, S_but]
      refine S_congr fun q hq => ?_
      by_cases h2 : q = r
      · subst h2
        simp
      · have a : r ≠ p := fun z => h z.symm
        have b : r ≠ q := fun z => h2 z.symm
        rw [if_pos h2]
        simp [a, b]
  rw [e1, S_comm]
  unfold T
  rw [← S_mul, ← S_mul, ← S_add]
  refine S_congr fun p hp => ?_
  rw [S_comm, ← S_mul, ← S_mul, ← S_add]
  refine S_congr fun q hq => ?_
  by_cases h : p = q
  · subst h
    simp [S_zero]
  · have hop := lf_op o hp hq h
    have e2 : S xs (fun r => if r ≠ p ∧ r ≠ q ∧ p ≠ q ∧ lf (but xs r) g p q = j then 1 else 0) = S xs fun r => (if lf xs g p q = j then 1 else 0) * (if g q p r = true then 1 else 0) + (if lf xs g p q = j + 1 then 1 else 0) * (if g p q r = true then 1 else 0) := S_congr fun r hr => by
      have hb := lf_but o (p := p) (q := q) hr
      by_cases z1 : r = p
      · subst z1
        rw [o.l1, o.l2]
        simp
      · by_cases z2 : r = q
        · subst z2
          rw [o.l1, o.l2]
          simp
        · rw [o.op p q r hp hq hr h z1 z2]
          cases hg : g p q r with
          | true =>
            rw [hg] at hb
            simp only [if_true] at hb
            have : lf (but xs r) g p q = j ↔ lf xs g p q = j + 1 := by omega
            simp [z1, z2, h, this]
          | false =>
            rw [hg] at hb
            simp at hb
            simp [z1, z2, h, hb]
    rw [e2, S_add, S_mul, S_mul]
    show _ * lf xs g q p + _ * lf xs g p q = _
    by_cases a : lf xs g p q = j
    · have b : ¬ lf xs g p q = j + 1 := by omega
      simp [a, h]
      omega
    · by_cases b : lf xs g p q = j + 1
      · simp [b, h]
      · simp [a, b, h]
end
end DC

namespace FV
open DC
section
variable {α : Type}
def A2 (f : α → α → Nat) : List α → Nat
  | [] => 0
  | x :: r => S r (f x) + A2 f r
def A3 (f : α → α → α → Nat) : List α → Nat
  | [] => 0
  | x :: r => A2 (f x) r + A3 f r
theorem S_perm {xs ys : List α} (h : xs.Perm ys) (f : α → Nat) : S xs f = S ys f := by
  induction h with
  | nil => rfl
  | cons x _ ih => rw [S_cons, S_cons, ih]
  | swap x y l => rw [S_cons, S_cons, S_cons, S_cons]; omega
  | trans _ _ a b => exact a.trans b
theorem A2_perm {xs ys : List α} (h : xs.Perm ys) {f : α → α → Nat} (hf : ∀ a b, f a b = f b a) : A2 f xs = A2 f ys := by
  induction h with
  | nil => rfl
  | cons x h ih => rw [A2, A2, ih, S_perm h]
  | swap x y l => rw [A2, A2, A2, A2, S_cons, S_cons, hf x y]; omega
  | trans _ _ a b => exact a.trans b
theorem A3_perm {xs ys : List α} (h : xs.Perm ys) {f : α → α → α → Nat} (h1 : ∀ a b c, f a b c = f b a c) (h2 : ∀ a b c, f a b c = f a c b) : A3 f xs = A3 f ys := by
  induction h with
  | nil => rfl
  | cons x h ih => rw [A3, A3, ih, A2_perm h (h2 x)]
  | swap x y l =>
    rw [A3, A3, A3, A3, A2, A2, show f x y = f y x from funext fun c => h1 x y c]
    omega
  | trans _ _ a b => exact a.trans b
variable [DecidableEq α]
/-- d lies within the triangle of a, b, c -/
def wi (g : α → α → α → Bool) (a b c d : α) : Bool := (g a b d == g b c d) && (g b c d == g c a d)
def wo (g : α → α → α → Bool) (d a b c : α) : Nat := if (a ≠ b ∧ a ≠ c ∧ b ≠ c) ∧ (d ≠ a ∧ d ≠ b ∧ d ≠ c) ∧ wi g a b c d = true then 1 else 0
/-- the pairs of a triangle and a point within, and the points that are within one -/
def PC (g : α → α → α → Bool) (xs : List α) : Nat := S xs fun d => A3 (wo g d) xs
def HC (g : α → α → α → Bool) (xs : List α) : Nat := S xs fun d => if A3 (wo g d) xs = 0 then 0 else 1
/-- turns change with an exchange, not with a round -/
structure Tn (g : α → α → α → Bool) (xs : List α) : Prop where
  l1 : ∀ p q, g p q p = false
  l2 : ∀ p q, g p q q = false
  cy : ∀ p q r, g q r p = g p q r
  sw : ∀ p q r, p ∈ xs → q ∈ xs → r ∈ xs → p ≠ q → r ≠ p → r ≠ q → g q p r = !g p q r
variable {g : α → α → α → Bool} {xs ys : List α}
theorem wo_1 (t : Tn g xs) {d a b c : α} (hd : d ∈ xs) (ha : a ∈ xs) (hb : b ∈ xs) (hc : c ∈ xs) : wo g d a b c = wo g d b a c := by
  unfold wo
  by_cases h : (a ≠ b ∧ a ≠ c ∧ b ≠ c) ∧ (d ≠ a ∧ d ≠ b ∧ d ≠ c)
  · obtain ⟨⟨h1, h2, h3⟩, h4, h5, h6⟩ := h
    have e : wi g b a c d = wi g a b c d := by
      unfold wi
      rw [t.sw a b d ha hb hd h1 h4 h5, t.sw c a d hc ha hd (fun z => h2 z.symm) h6 h4, t.sw b c d hb hc hd h3 h5 h6]
      cases g a b d <;> cases g b c d <;> cases g c a d <;> rfl
    have h1' : b ≠ a := fun z => h1 z.symm
    simp [h1, h1', h2, h3, h4, h5, h6, e]
  · have h' : ¬ ((b ≠ a ∧ b ≠ c ∧ a ≠ c) ∧ (d ≠ b ∧ d ≠ a ∧ d ≠ c)) := fun ⟨⟨x1, x2, x3⟩, x4, x5, x6⟩ => h ⟨⟨fun z => x1 z.symm, x3, x2⟩, x5, x4, x6⟩
    rw [if_neg fun z => h ⟨z.1, z.2.1⟩, if_neg fun z => h' ⟨z.1, z.2.1⟩]
theorem wo_2 (t : Tn g xs) {d a b c : α} (hd : d ∈ xs) (ha : a ∈ xs) (hb : b ∈ xs) (hc : c ∈ xs) : wo g d a b c = wo g d a c b := by
  unfold wo
  by_cases h : (a ≠ b ∧ a ≠ c ∧ b ≠ c) ∧ (d ≠ a ∧ d ≠ b ∧ d ≠ c)
  · obtain ⟨⟨h1, h2, h3⟩, h4, h5, h6⟩ := h
    have e : wi g a c b d = wi g a b c d := by
      unfold wi
      rw [t.sw c a d hc ha hd (fun z => h2 z.symm) h6 h4, t.sw b c d hb hc hd h3 h5 h6, t.sw a b d ha hb hd h1 h4 h5]
      cases g a b d <;> cases g b c d <;> cases g c a d <;> rfl
    have h3' : c ≠ b := fun z => h3 z.symm
    simp [h1, h2, h3, h3', h4, h5, h6, e]
  · have h' : ¬ ((a ≠ c ∧ a ≠ b ∧ c ≠ b) ∧ (d ≠ a ∧ d ≠ c ∧ d ≠ b)) := fun ⟨⟨x1, x2, x3⟩, x4, x5, x6⟩ => h ⟨⟨x2, x1, fun z => x3 z.symm⟩, x4, x6, x5⟩
    rw [if_neg fun z => h ⟨z.1, z.2.1⟩, if_neg fun z => h' ⟨z.1, z.2.1⟩]
/-- sums that look at members alone -/
theorem A2_congr {f f' : α → α → Nat} : ∀ {l : List α}, (∀ a ∈ l, ∀ b ∈ l, f a b = f' a b) → A2 f l = A2 f' l
  | [], _ => rfl
  | x :: r, h => by
    rw [A2, A2, A2_congr fun a ha b hb => h a (List.mem_cons_of_mem _ ha) b (List.mem_cons_of_mem _ hb), S_congr fun b hb => h x List.mem_cons_self b (List.mem_cons_of_mem _ hb)]
theorem A3_congr {f f' : α → α → α → Nat} : ∀ {l : List α}, (∀ a ∈ l, ∀ b ∈ l, ∀ c ∈ l, f a b c = f' a b c) → A3 f l = A3 f' l
  | [], _ => rfl
  | x :: r, h => by
    rw [A3, A3, A3_congr fun a ha b hb c hc => h a (List.mem_cons_of_mem _ ha) b (List.mem_cons_of_mem _ hb) c (List.mem_cons_of_mem _ hc), A2_congr fun b hb c hc => h x List.mem_cons_self b (List.mem_cons_of_mem _ hb) c (List.mem_cons_of_mem _ hc)]
theorem wo_perm (t : Tn g xs) (h : xs.Perm ys) {d : α} (hd : d ∈ xs) : A3 (wo g d) xs = A3 (wo g d) ys := by
  let f : α → α → α → Nat := fun a b c => if a ∈ xs ∧ b ∈ xs ∧ c ∈ xs then wo g d a b c else 0
  have e1 : A3 (wo g d) xs = A3 f xs := A3_congr fun a ha b hb c hc => (if_pos ⟨ha, hb, hc⟩).symm
  have e2 : A3 (wo g d) ys = A3 f ys := A3_congr fun a ha b hb c hc => (if_pos ⟨h.mem_iff.mpr ha, h.mem_iff.mpr hb, h.mem_iff.mpr hc⟩).symm
  rw [e1, e2]
  refine A3_perm h (fun a b c => ?_) fun a b c => ?_
  · by_cases m : a ∈ xs ∧ b ∈ xs ∧ c ∈ xs
    · have m2 : b ∈ xs ∧ a ∈ xs ∧ c ∈ xs := ⟨m.2.1, m.1, m.2.2⟩
      show (if _ then _ else _) = (if _ then _ else _)
      rw [if_pos m, if_pos m2, wo_1 t hd m.1 m.2.1 m.2.2]
    · have m2 : ¬ (b ∈ xs ∧ a ∈ xs ∧ c ∈ xs) := fun z => m ⟨z.2.1, z.1, z.2.2⟩
      show (if _ then _ else _) = (if _ then _ else _)
      rw [if_neg m, if_neg m2]
  · by_cases m : a ∈ xs ∧ b ∈ xs ∧ c ∈ xs
    · have m2 : a ∈ xs ∧ c ∈ xs ∧ b ∈ xs := ⟨m.1, m.2.2, m.2.1⟩
      show (if _ then _ else _) = (if _ then _ else _)
      rw [if_pos m, if_pos m2, wo_2 t hd m.1 m.2.1 m.2.2]
    · have m2 : ¬ (a ∈ xs ∧ c ∈ xs ∧ b ∈ xs) := fun z => m ⟨z.1, z.2.2, z.2.1⟩
      show (if _ then _ else _) = (if _ then _ else _)
      rw [if_neg m, if_neg m2]
theorem PC_perm (t : Tn g xs) (h : xs.Perm ys) : PC g xs = PC g ys := by
  unfold PC
  rw [S_congr fun d hd => wo_perm t h hd, S_perm h]
theorem HC_perm (t : Tn g xs) (h : xs.Perm ys) : HC g xs = HC g ys := by
  unfold HC
  rw [S_congr fun d hd => by rw [wo_perm t h hd], S_perm h]
theorem T_perm (h : xs.Perm ys) (j : Nat) : T xs g j = T ys g j := by
  unfold T
  rw [S_perm h]
  refine S_congr fun p _ => ?_
  rw [S_perm h]
  refine S_congr fun q _ => ?_
  rw [show lf xs g p q = lf ys g p q from S_perm h _]
end
def cons (s012 s013 s014 s023 s024 s034 s123 s124 s134 s234 : Bool) : Bool := !(((s123 && !s023 && s013 && !s012) || (!(s123) && !(!s023) && !(s013) && !(!s012)))) && !(((s124 && !s024 && s014 && !s012) || (!(s124) && !(!s024) && !(s014) && !(!s012)))) && !(((s134 && !s034 && s014 && !s013) || (!(s134) && !(!s034) && !(s014) && !(!s013)))) && !(((s234 && !s034 && s024 && !s023) || (!(s234) && !(!s034) && !(s024) && !(!s023)))) && !(((s234 && !s134 && s124 && !s123) || (!(s234) && !(!s134) && !(s124) && !(!s123)))) && !(((((s012) == (s034)) && !((s013) == (s024)) && ((s014) == (s023))) || (!(((s012) == (s034))) && !(!((s013) == (s024))) && !(((s014) == (s023)))))) && !(((((!s012) == (s134)) && !((!s013) == (s124)) && ((!s014) == (s123))) || (!(((!s012) == (s134))) && !(!((!s013) == (s124))) && !(((!s014) == (s123)))))) && !(((((s012) == (s234)) && !((!s023) == (!s124)) && ((!s024) == (!s123))) || (!(((s012) == (s234))) && !(!((!s023) == (!s124))) && !(((!s024) == (!s123)))))) && !(((((s013) == (!s234)) && !((s023) == (!s134)) && ((!s034) == (s123))) || (!(((s013) == (!s234))) && !(!((s023) == (!s134))) && !(((!s034) == (s123)))))) && !(((((s014) == (s234)) && !((s024) == (s134)) && ((s034) == (s124))) || (!(((s014) == (s234))) && !(!((s024) == (s134))) && !(((s034) == (s124))))))
def inn0 (s012 s013 s014 s023 s024 s034 s123 s124 s134 s234 : Bool) : Nat := (bif ((((s012) == (s023)) && ((s023) == (!s013)))) then 1 else 0) + (bif ((((s012) == (s024)) && ((s024) == (!s014)))) then 1 else 0) + (bif ((((s013) == (s034)) && ((s034) == (!s014)))) then 1 else 0) + (bif ((((s023) == (s034)) && ((s034) == (!s024)))) then 1 else 0)
def inn1 (s012 s013 s014 s023 s024 s034 s123 s124 s134 s234 : Bool) : Nat := (bif ((((!s012) == (s123)) && ((s123) == (s013)))) then 1 else 0) + (bif ((((!s012) == (s124)) && ((s124) == (s014)))) then 1 else 0) + (bif ((((!s013) == (s134)) && ((s134) == (s014)))) then 1 else 0) + (bif ((((s123) == (s134)) && ((s134) == (!s124)))) then 1 else 0)
def inn2 (s012 s013 s014 s023 s024 s034 s123 s124 s134 s234 : Bool) : Nat := (bif ((((s012) == (!s123)) && ((!s123) == (s023)))) then 1 else 0) + (bif ((((s012) == (!s124)) && ((!s124) == (s024)))) then 1 else 0) + (bif ((((!s023) == (s234)) && ((s234) == (s024)))) then 1 else 0) + (bif ((((!s123) == (s234)) && ((s234) == (s124)))) then 1 else 0)
def inn3 (s012 s013 s014 s023 s024 s034 s123 s124 s134 s234 : Bool) : Nat := (bif ((((s013) == (s123)) && ((s123) == (!s023)))) then 1 else 0) + (bif ((((s013) == (!s134)) && ((!s134) == (s034)))) then 1 else 0) + (bif ((((s023) == (!s234)) && ((!s234) == (s034)))) then 1 else 0) + (bif ((((s123) == (!s234)) && ((!s234) == (s134)))) then 1 else 0)
def inn4 (s012 s013 s014 s023 s024 s034 s123 s124 s134 s234 : Bool) : Nat := (bif ((((s014) == (s124)) && ((s124) == (!s024)))) then 1 else 0) + (bif ((((s014) == (s134)) && ((s134) == (!s034)))) then 1 else 0) + (bif ((((s024) == (s234)) && ((s234) == (!s034)))) then 1 else 0) + (bif ((((s124) == (s234)) && ((s234) == (!s134)))) then 1 else 0)
def hul (s012 s013 s014 s023 s024 s034 s123 s124 s134 s234 : Bool) : Nat := (bif (s012) || (s013) || (s014) then 0 else 1) + (bif (!s012) || (s023) || (s024) then 0 else 1) + (bif (!s013) || (!s023) || (s034) then 0 else 1) + (bif (!s014) || (!s024) || (!s034) then 0 else 1) + (bif (!s012) || (!s013) || (!s014) then 0 else 1) + (bif (s012) || (s123) || (s124) then 0 else 1) + (bif (s013) || (!s123) || (s134) then 0 else 1) + (bif (s014) || (!s124) || (!s134) then 0 else 1) + (bif (s012) || (!s023) || (!s024) then 0 else 1) + (bif (!s012) || (!s123) || (!s124) then 0 else 1) + (bif (s023) || (s123) || (s234) then 0 else 1) + (bif (s024) || (s124) || (!s234) then 0 else 1) + (bif (s013) || (s023) || (!s034) then 0 else 1) + (bif (!s013) || (s123) || (!s134) then 0 else 1) + (bif (!s023) || (!s123) || (!s234) then 0 else 1) + (bif (s034) || (s134) || (s234) then 0 else 1) + (bif (s014) || (s024) || (s034) then 0 else 1) + (bif (!s014) || (s124) || (s134) then 0 else 1) + (bif (!s024) || (!s124) || (s234) then 0 else 1) + (bif (!s034) || (!s134) || (!s234) then 0 else 1)
theorem five_dec : ∀ s012 s013 s014 s023 s024 s034 s123 s124 s134 s234 : Bool, cons s012 s013 s014 s023 s024 s034 s123 s124 s134 s234 = true → (inn0 s012 s013 s014 s023 s024 s034 s123 s124 s134 s234 + inn1 s012 s013 s014 s023 s024 s034 s123 s124 s134 s234 + inn2 s012 s013 s014 s023 s024 s034 s123 s124 s134 s234 + inn3 s012 s013 s014 s023 s024 s034 s123 s124 s134 s234 + inn4 s012 s013 s014 s023 s024 s034 s123 s124 s134 s234 = 2 * ((if inn0 s012 s013 s014 s023 s024 s034 s123 s124 s134 s234 = 0 then 0 else 1) + (if inn1 s012 s013 s014 s023 s024 s034 s123 s124 s134 s234 = 0 then 0 else 1) + (if inn2 s012 s013 s014 s023 s024 s034 s123 s124 s134 s234 = 0 then 0 else 1) + (if inn3 s012 s013 s014 s023 s024 s034 s123 s124 s134 s234 = 0 then 0 else 1) + (if inn4 s012 s013 s014 s023 s024 s034 s123 s124 s134 s234 = 0 then 0 else 1)) ∧ hul s012 s013 s014 s023 s024 s034 s123 s124 s134 s234 + ((if inn0 s012 s013 s014 s023 s024 s034 s123 s124 s134 s234 = 0 then 0 else 1) + (if inn1 s012 s013 s014 s023 s024 s034 s123 s124 s134 s234 = 0 then 0 else 1) + (if inn2 s012 s013 s014 s023 s024 s034 s123 s124 s134 s234 = 0 then 0 else 1) + (if inn3 s012 s013 s014 s023 s024 s034 s123 s124 s134 s234 = 0 then 0 else 1) + (if inn4 s012 s013 s014 s023 s024 s034 s123 s124 s134 s234 = 0 then 0 else 1)) = 5 ∧ ((if inn0 s012 s013 s014 s023 s024 s034 s123 s124 s134 s234 = 0 then 0 else 1) + (if inn1 s012 s013 s014 s023 s024 s034 s123 s124 s134 s234 = 0 then 0 else 1) + (if inn2 s012 s013 s014 s023 s024 s034 s123 s124 s134 s234 = 0 then 0 else 1) + (if inn3 s012 s013 s014 s023 s024 s034 s123 s124 s134 s234 = 0 then 0 else 1) + (if inn4 s012 s013 s014 s023 s024 s034 s123 s124 s134 s234 = 0 then 0 else 1)) ≤ 2) := by decide +kernel
section
variable {α : Type} [DecidableEq α] {g : α → α → α → Bool} {q0 q1 q2 q3 q4 : α}
theorem five (t : Tn g [q0, q1, q2, q3, q4]) (nd : [q0, q1, q2, q3, q4].Nodup) (hc : cons (g q0 q1 q2) (g q0 q1 q3) (g q0 q1 q4) (g q0 q2 q3) (g q0 q2 q4) (g q0 q3 q4) (g q1 q2 q3) (g q1 q2 q4) (g q1 q3 q4) (g q2 q3 q4) = true) : PC g [q0, q1, q2, q3, q4] = 2 * HC g [q0, q1, q2, q3, q4] ∧ T [q0, q1, q2, q3, q4] g 0 + HC g [q0, q1, q2, q3, q4] = 5 ∧ HC g [q0, q1, q2, q3, q4] ≤ 2 := by
  have ne := List.pairwise_iff_getElem.mp (List.nodup_iff_pairwise_ne.mp nd)
  have n01 : q0 ≠ q1 := ne 0 1 (by simp) (by simp) (by decide)
  have n10 : q1 ≠ q0 := fun z => n01 z.symm
  have n02 : q0 ≠ q2 := ne 0 2 (by simp) (by simp) (by decide)
  have n20 : q2 ≠ q0 := fun z => n02 z.symm
  have n03 : q0 ≠ q3 := ne 0 3 (by simp) (by simp) (by decide)
  have n30 : q3 ≠ q0 := fun z => n03 z.symm
  have n04 : q0 ≠ q4 := ne 0 4 (by simp) (by simp) (by decide)
  have n40 : q4 ≠ q0 := fun z => n04 z.symm
  have n12 : q1 ≠ q2 := ne 1 2 (by simp) (by simp) (by decide)
  have n21 : q2 ≠ q1 := fun z => n12 z.symm
  have n13 : q1 ≠ q3 := ne 1 3 (by simp) (by simp) (by decide)
  have n31 : q3 ≠ q1 := fun z => n13 z.symm
  have n14 : q1 ≠ q4 := ne 1 4 (by simp) (by simp) (by decide)
  have n41 : q4 ≠ q1 := fun z => n14 z.symm
  have n23 : q2 ≠ q3 := ne 2 3 (by simp) (by simp) (by decide)
  have n32 : q3 ≠ q2 := fun z => n23 z.symm
  have n24 : q2 ≠ q4 := ne 2 4 (by simp) (by simp) (by decide)
  have n42 : q4 ≠ q2 := fun z => n24 z.symm
  have n34 : q3 ≠ q4 := ne 3 4 (by simp) (by simp) (by decide)
  have n43 : q4 ≠ q3 := fun z => n34 z.symm
  have m0 : q0 ∈ [q0, q1, q2, q3, q4] := by simp
  have m1 : q1 ∈ [q0, q1, q2, q3, q4] := by simp
  have m2 : q2 ∈ [q0, q1, q2, q3, q4] := by simp
  have m3 : q3 ∈ [q0, q1, q2, q3, q4] := by simp
  have m4 : q4 ∈ [q0, q1, q2, q3, q4] := by simp
  have f120 : g q1 q2 q0 = g q0 q1 q2 := t.cy q0 q1 q2
  have f201 : g q2 q0 q1 = g q0 q1 q2 := (t.cy q1 q2 q0).trans (t.cy q0 q1 q2)
  have f102 : g q1 q0 q2 = !g q0 q1 q2 := t.sw q0 q1 q2 m0 m1 m2 n01 n20 n21
  have f021 : g q0 q2 q1 = !g q0 q1 q2 := (t.cy q1 q0 q2).trans f102
  have f210 : g q2 q1 q0 = !g q0 q1 q2 := (t.cy q0 q2 q1).trans f021
  have f130 : g q1 q3 q0 = g q0 q1 q3 := t.cy q0 q1 q3
  have f301 : g q3 q0 q1 = g q0 q1 q3 := (t.cy q1 q3 q0).trans (t.cy q0 q1 q3)
  have f103 : g q1 q0 q3 = !g q0 q1 q3 := t.sw q0 q1 q3 m0 m1 m3 n01 n30 n31
  have f031 : g q0 q3 q1 = !g q0 q1 q3 := (t.cy q1 q0 q3).trans f103
  have f310 : g q3 q1 q0 = !g q0 q1 q3 := (t.cy q0 q3 q1).trans f031
  have f140 : g q1 q4 q0 = g q0 q1 q4 := t.cy q0 q1 q4
  have f401 : g q4 q0 q1 = g q0 q1 q4 := (t.cy q1 q4 q0).trans (t.cy q0 q1 q4)
  have f104 : g q1 q0 q4 = !g q0 q1 q4 := t.sw q0 q1 q4 m0 m1 m4 n01 n40 n41
  have f041 : g q0 q4 q1 = !g q0 q1 q4 := (t.cy q1 q0 q4).trans f104
  have f410 : g q4 q1 q0 = !g q0 q1 q4 := (t.cy q0 q4 q1).trans f041
  have f230 : g q2 q3 q0 = g q0 q2 q3 := t.cy q0 q2 q3
  have f302 : g q3 q0 q2 = g q0 q2 q3 := (t.cy q2 q3 q0).trans (t.cy q0 q2 q3)
  have f203 : g q2 q0 q3 = !g q0 q2 q3 := t.sw q0 q2 q3 m0 m2 m3 n02 n30 n32
  have f032 : g q0 q3 q2 = !g q0 q2 q3 := (t.cy q2 q0 q3).trans f203
  have f320 : g q3 q2 q0 = !g q0 q2 q3 := (t.cy q0 q3 q2).trans f032
  have f240 : g q2 q4 q0 = g q0 q2 q4 := t.cy q0 q2 q4
  have f402 : g q4 q0 q2 = g q0 q2 q4 := (t.cy q2 q4 q0).trans (t.cy q0 q2 q4)
  have f204 : g q2 q0 q4 = !g q0 q2 q4 := t.sw q0 q2 q4 m0 m2 m4 n02 n40 n42
  have f042 : g q0 q4 q2 = !g q0 q2 q4 := (t.cy q2 q0 q4).trans f204
  have f420 : g q4 q2 q0 = !g q0 q2 q4 := (t.cy q0 q4 q2).trans f042
  have f340 : g q3 q4 q0 = g q0 q3 q4 := t.cy q0 q3 q4
  have f403 : g q4 q0 q3 = g q0 q3 q4 := (t.cy q3 q4 q0).trans (t.cy q0 q3 q4)
  have f304 : g q3 q0 q4 = !g q0 q3 q4 := t.sw q0 q3 q4 m0 m3 m4 n03 n40 n43
  have f043 : g q0 q4 q3 = !g q0 q3 q4 := (t.cy q3 q0 q4).trans f304
  have f430 : g q4 q3 q0 = !g q0 q3 q4 := (t.cy q0 q4 q3).trans f043
  have f231 : g q2 q3 q1 = g q1 q2 q3 := t.cy q1 q2 q3
  have f312 : g q3 q1 q2 = g q1 q2 q3 := (t.cy q2 q3 q1).trans (t.cy q1 q2 q3)
  have f213 : g q2 q1 q3 = !g q1 q2 q3 := t.sw q1 q2 q3 m1 m2 m3 n12 n31 n32
  have f132 : g q1 q3 q2 = !g q1 q2 q3 := (t.cy q2 q1 q3).trans f213
  have f321 : g q3 q2 q1 = !g q1 q2 q3 := (t.cy q1 q3 q2).trans f132
  have f241 : g q2 q4 q1 = g q1 q2 q4 := t.cy q1 q2 q4
  have f412 : g q4 q1 q2 = g q1 q2 q4 := (t.cy q2 q4 q1).trans (t.cy q1 q2 q4)
  have f214 : g q2 q1 q4 = !g q1 q2 q4 := t.sw q1 q2 q4 m1 m2 m4 n12 n41 n42
  have f142 : g q1 q4 q2 = !g q1 q2 q4 := (t.cy q2 q1 q4).trans f214
  have f421 : g q4 q2 q1 = !g q1 q2 q4 := (t.cy q1 q4 q2).trans f142
  have f341 : g q3 q4 q1 = g q1 q3 q4 := t.cy q1 q3 q4
  have f413 : g q4 q1 q3 = g q1 q3 q4 := (t.cy q3 q4 q1).trans (t.cy q1 q3 q4)
  have f314 : g q3 q1 q4 = !g q1 q3 q4 := t.sw q1 q3 q4 m1 m3 m4 n13 n41 n43
  have f143 : g q1 q4 q3 = !g q1 q3 q4 := (t.cy q3 q1 q4).trans f314
  have f431 : g q4 q3 q1 = !g q1 q3 q4 := (t.cy q1 q4 q3).trans f143
  have f342 : g q3 q4 q2 = g q2 q3 q4 := t.cy q2 q3 q4
  have f423 : g q4 q2 q3 = g q2 q3 q4 := (t.cy q3 q4 q2).trans (t.cy q2 q3 q4)
  have f324 : g q3 q2 q4 = !g q2 q3 q4 := t.sw q2 q3 q4 m2 m3 m4 n23 n42 n43
  have f243 : g q2 q4 q3 = !g q2 q3 q4 := (t.cy q3 q2 q4).trans f324
  have f432 : g q4 q3 q2 = !g q2 q3 q4 := (t.cy q2 q4 q3).trans f243
  have key := five_dec (g q0 q1 q2) (g q0 q1 q3) (g q0 q1 q4) (g q0 q2 q3) (g q0 q2 q4) (g q0 q3 q4) (g q1 q2 q3) (g q1 q2 q4) (g q1 q3 q4) (g q2 q3 q4) hc
  have e0 : A3 (wo g q0) [q0, q1, q2, q3, q4] = inn0 (g q0 q1 q2) (g q0 q1 q3) (g q0 q1 q4) (g q0 q2 q3) (g q0 q2 q4) (g q0 q3 q4) (g q1 q2 q3) (g q1 q2 q4) (g q1 q3 q4) (g q2 q3 q4) := by
    unfold inn0
    simp only [A3, A2, S, List.map_cons, List.map_nil, List.sum_cons, List.sum_nil, wo, wi, n01, n02, n03, n04, n10, n12, n13, n14, n20, n21, n23, n24, n30, n31, n32, n34, n40, n41, n42, n43, ne_eq, not_true_eq_false, not_false_eq_true, and_true, true_and, and_false, false_and, if_false, f120, f201, f102, f021, f210, f130, f301, f103, f031, f310, f140, f401, f104, f041, f410, f230, f302, f203, f032, f320, f240, f402, f204, f042, f420, f340, f403, f304, f043, f430, f231, f312, f213, f132, f321, f241, f412, f214, f142, f421, f341, f413, f314, f143, f431, f342, f423, f324, f243, f432, cond_eq_ite, Nat.add_zero, Nat.zero_add]
    try omega
  have e1 : A3 (wo g q1) [q0, q1, q2, q3, q4] = inn1 (g q0 q1 q2) (g q0 q1 q3) (g q0 q1 q4) (g q0 q2 q3) (g q0 q2 q4) (g q0 q3 q4) (g q1 q2 q3) (g q1 q2 q4) (g q1 q3 q4) (g q2 q3 q4) := by
    unfold inn1
    simp only [A3, A2, S, List.map_cons, List.map_nil, List.sum_cons, List.sum_nil, wo, wi, n01, n02, n03, n04, n10, n12, n13, n14, n20, n21, n23, n24, n30, n31, n32, n34, n40, n41, n42, n43, ne_eq, not_true_eq_false, not_false_eq_true, and_true, true_and, and_false, false_and, if_false, f120, f201, f102, f021, f210, f130, f301, f103, f031, f310, f140, f401, f104, f041, f410, f230, f302, f203, f032, f320, f240, f402, f204, f042, f420, f340, f403, f304, f043, f430, f231, f312, f213, f132, f321, f241, f412, f214, f142, f421, f341, f413, f314, f143, f431, f342, f423, f324, f243, f432, cond_eq_ite, Nat.add_zero, Nat.zero_add]
    try omega
  have e2 : A3 (wo g q2) [q0, q1, q2, q3, q4] = inn2 (g q0 q1 q2) (g q0 q1 q3) (g q0 q1 q4) (g q0 q2 q3) (g q0 q2 q4) (g q0 q3 q4) (g q1 q2 q3) (g q1 q2 q4) (g q1 q3 q4) (g q2 q3 q4) := by
    unfold inn2
    simp only [A3, A2, S, List.map_cons, List.map_nil, List.sum_cons, List.sum_nil, wo, wi, n01, n02, n03, n04, n10, n12, n13, n14, n20, n21, n23, n24, n30, n31, n32, n34, n40, n41, n42, n43, ne_eq, not_true_eq_false, not_false_eq_true, and_true, true_and, and_false, false_and, if_false, f120, f201, f102, f021, f210, f130, f301, f103, f031, f310, f140, f401, f104, f041, f410, f230, f302, f203, f032, f320, f240, f402, f204, f042, f420, f340, f403, f304, f043, f430, f231, f312, f213, f132, f321, f241, f412, f214, f142, f421, f341, f413, f314, f143, f431, f342, f423, f324, f243, f432, cond_eq_ite, Nat.add_zero, Nat.zero_add]
    try omega
  have e3 : A3 (wo g q3) [q0, q1, q2, q3, q4] = inn3 (g q0 q1 q2) (g q0 q1 q3) (g q0 q1 q4) (g q0 q2 q3) (g q0 q2 q4) (g q0 q3 q4) (g q1 q2 q3) (g q1 q2 q4) (g q1 q3 q4) (g q2 q3 q4) := by
    unfold inn3
    simp only [A3, A2, S, List.map_cons, List.map_nil, List.sum_cons, List.sum_nil, wo, wi, n01, n02, n03, n04, n10, n12, n13, n14, n20, n21, n23, n24, n30, n31, n32, n34, n40, n41, n42, n43, ne_eq, not_true_eq_false, not_false_eq_true, and_true, true_and, and_false, false_and, if_false, f120, f201, f102, f021, f210, f130, f301, f103, f031, f310, f140, f401, f104, f041, f410, f230, f302, f203, f032, f320, f240, f402, f204, f042, f420, f340, f403, f304, f043, f430, f231, f312, f213, f132, f321, f241, f412, f214, f142, f421, f341, f413, f314, f143, f431, f342, f423, f324, f243, f432, cond_eq_ite, Nat.add_zero, Nat.zero_add]
    try omega
  have e4 : A3 (wo g q4) [q0, q1, q2, q3, q4] = inn4 (g q0 q1 q2) (g q0 q1 q3) (g q0 q1 q4) (g q0 q2 q3) (g q0 q2 q4) (g q0 q3 q4) (g q1 q2 q3) (g q1 q2 q4) (g q1 q3 q4) (g q2 q3 q4) := by
    unfold inn4
    simp only [A3, A2, S, List.map_cons, List.map_nil, List.sum_cons, List.sum_nil, wo, wi, n01, n02, n03, n04, n10, n12, n13, n14, n20, n21, n23, n24, n30, n31, n32, n34, n40, n41, n42, n43, ne_eq, not_true_eq_false, not_false_eq_true, and_true, true_and, and_false, false_and, if_false, f120, f201, f102, f021, f210, f130, f301, f103, f031, f310, f140, f401, f104, f041, f410, f230, f302, f203, f032, f320, f240, f402, f204, f042, f420, f340, f403, f304, f043, f430, f231, f312, f213, f132, f321, f241, f412, f214, f142, f421, f341, f413, f314, f143, f431, f342, f423, f324, f243, f432, cond_eq_ite, Nat.add_zero, Nat.zero_add]
    try omega
  have eT : T [q0, q1, q2, q3, q4] g 0 = hul (g q0 q1 q2) (g q0 q1 q3) (g q0 q1 q4) (g q0 q2 q3) (g q0 q2 q4) (g q0 q3 q4) (g q1 q2 q3) (g q1 q2 q4) (g q1 q3 q4) (g q2 q3 q4) := by
    unfold T lf
    simp only [S, List.map_cons, List.map_nil, List.sum_cons, List.sum_nil, ne_eq, not_true_eq_false, not_false_eq_true, true_and, false_and, if_false, t.l1, t.l2, Bool.false_eq_true, n01, n02, n03, n04, n10, n12, n13, n14, n20, n21, n23, n24, n30, n31, n32, n34, n40, n41, n42, n43, f120, f201, f102, f021, f210, f130, f301, f103, f031, f310, f140, f401, f104, f041, f410, f230, f302, f203, f032, f320, f240, f402, f204, f042, f420, f340, f403, f304, f043, f430, f231, f312, f213, f132, f321, f241, f412, f214, f142, f421, f341, f413, f314, f143, f431, f342, f423, f324, f243, f432]
    generalize g q0 q1 q2 = s012
    generalize g q0 q1 q3 = s013
    generalize g q0 q1 q4 = s014
    generalize g q0 q2 q3 = s023
    generalize g q0 q2 q4 = s024
    generalize g q0 q3 q4 = s034
    generalize g q1 q2 q3 = s123
    generalize g q1 q2 q4 = s124
    generalize g q1 q3 q4 = s134
    generalize g q2 q3 q4 = s234
    revert s012 s013 s014 s023 s024 s034 s123 s124 s134 s234
    decide +kernel
  have eP : PC g [q0, q1, q2, q3, q4] = inn0 (g q0 q1 q2) (g q0 q1 q3) (g q0 q1 q4) (g q0 q2 q3) (g q0 q2 q4) (g q0 q3 q4) (g q1 q2 q3) (g q1 q2 q4) (g q1 q3 q4) (g q2 q3 q4) + inn1 (g q0 q1 q2) (g q0 q1 q3) (g q0 q1 q4) (g q0 q2 q3) (g q0 q2 q4) (g q0 q3 q4) (g q1 q2 q3) (g q1 q2 q4) (g q1 q3 q4) (g q2 q3 q4) + inn2 (g q0 q1 q2) (g q0 q1 q3) (g q0 q1 q4) (g q0 q2 q3) (g q0 q2 q4) (g q0 q3 q4) (g q1 q2 q3) (g q1 q2 q4) (g q1 q3 q4) (g q2 q3 q4) + inn3 (g q0 q1 q2) (g q0 q1 q3) (g q0 q1 q4) (g q0 q2 q3) (g q0 q2 q4) (g q0 q3 q4) (g q1 q2 q3) (g q1 q2 q4) (g q1 q3 q4) (g q2 q3 q4) + inn4 (g q0 q1 q2) (g q0 q1 q3) (g q0 q1 q4) (g q0 q2 q3) (g q0 q2 q4) (g q0 q3 q4) (g q1 q2 q3) (g q1 q2 q4) (g q1 q3 q4) (g q2 q3 q4) := by
    unfold PC
    simp only [S, List.map_cons, List.map_nil, List.sum_cons, List.sum_nil, e0, e1, e2, e3, e4]
    omega
  have eH : HC g [q0, q1, q2, q3, q4] = (if inn0 (g q0 q1 q2) (g q0 q1 q3) (g q0 q1 q4) (g q0 q2 q3) (g q0 q2 q4) (g q0 q3 q4) (g q1 q2 q3) (g q1 q2 q4) (g q1 q3 q4) (g q2 q3 q4) = 0 then 0 else 1) + (if inn1 (g q0 q1 q2) (g q0 q1 q3) (g q0 q1 q4) (g q0 q2 q3) (g q0 q2 q4) (g q0 q3 q4) (g q1 q2 q3) (g q1 q2 q4) (g q1 q3 q4) (g q2 q3 q4) = 0 then 0 else 1) + (if inn2 (g q0 q1 q2) (g q0 q1 q3) (g q0 q1 q4) (g q0 q2 q3) (g q0 q2 q4) (g q0 q3 q4) (g q1 q2 q3) (g q1 q2 q4) (g q1 q3 q4) (g q2 q3 q4) = 0 then 0 else 1) + (if inn3 (g q0 q1 q2) (g q0 q1 q3) (g q0 q1 q4) (g q0 q2 q3) (g q0 q2 q4) (g q0 q3 q4) (g q1 q2 q3) (g q1 q2 q4) (g q1 q3 q4) (g q2 q3 q4) = 0 then 0 else 1) + (if inn4 (g q0 q1 q2) (g q0 q1 q3) (g q0 q1 q4) (g q0 q2 q3) (g q0 q2 q4) (g q0 q3 q4) (g q1 q2 q3) (g q1 q2 q4) (g q1 q3 q4) (g q2 q3 q4) = 0 then 0 else 1) := by
    unfold HC
    simp only [S, List.map_cons, List.map_nil, List.sum_cons, List.sum_nil, e0, e1, e2, e3, e4]
    omega
  rw [eT, eP, eH]
  exact key
end
end FV

/-! FQ: sums over all ordered quadruples, as sums over the ascending ones. -/
namespace FQ
open DC FV
section
variable {α : Type}
def A4 (f : α → α → α → α → Nat) : List α → Nat
  | [] => 0
  | x :: r => A3 (f x) r + A4 f r
def s2 (f : α → α → Nat) (a b : α) : Nat := f a b + f b a
def s3 (f : α → α → α → Nat) (a b c : α) : Nat := s2 (f a) b c + s2 (fun x y => f x a y) b c + s2 (fun x y => f x y a) b c
def s4 (f : α → α → α → α → Nat) (a b c d : α) : Nat := s3 (f a) b c d + s3 (fun x y z => f x a y z) b c d + s3 (fun x y z => f x y a z) b c d + s3 (fun x y z => f x y z a) b c d
theorem A2_add (f g : α → α → Nat) : ∀ l : List α, A2 (fun a b => f a b + g a b) l = A2 f l + A2 g l
  | [] => rfl
  | x :: r => by
    rw [A2, A2, A2, A2_add f g r, S_add]
    omega
theorem A3_add (f g : α → α → α → Nat) : ∀ l : List α, A3 (fun a b c => f a b c + g a b c) l = A3 f l + A3 g l
  | [] => rfl
  | x :: r => by
    rw [A3, A3, A3, A3_add f g r, A2_add]
    omega
theorem O2 {f : α → α → Nat} (h : ∀ a, f a a = 0) : ∀ xs : List α, S xs (fun a => S xs (f a)) = A2 (s2 f) xs
  | [] => rfl
  | x :: r => by
    have e : S (x :: r) (fun a => S (x :: r) (f a)) = S r (f x) + (S r (fun a => f a x) + S r (fun a => S r (f a))) := by
      simp only [S_cons, S_add, h, Nat.zero_add]
      omega
    rw [e, O2 h r, A2]
    unfold s2
    rw [S_add]
    omega
theorem O3 {f : α → α → α → Nat} (h1 : ∀ a c, f a a c = 0) (h2 : ∀ a b, f a b a = 0) (h3 : ∀ a b, f a b b = 0) : ∀ xs : List α, S xs (fun a => S xs fun b => S xs (f a b)) = A3 (s3 f) xs
  | [] => rfl
  | x :: r => by
    have e : S (x :: r) (fun a => S (x :: r) fun b => S (x :: r) (f a b)) = S r (fun b => S r (f x b)) + (S r (fun a => S r (f a x)) + (S r (fun a => S r fun b => f a b x) + S r (fun a => S r fun b => S r (f a b)))) := by
      have z1 : ∀ a, S r (f a a) = 0 := fun a => (S_congr fun c _ => h1 a c).trans (S_zero r)
      simp only [S_cons, S_add, h1, h2, h3, Nat.zero_add, S_zero, z1]
      omega
    rw [e, O3 h1 h2 h3 r, O2 (f := f x) (h3 x), O2 (f := fun a c => f a x c) (fun a => h2 a x), O2 (f := fun a b => f a b x) (fun a => h1 a x), A3]
    unfold s3
    rw [A2_add, A2_add]
    omega
theorem O4 {f : α → α → α → α → Nat} (h12 : ∀ a c d, f a a c d = 0) (h13 : ∀ a b d, f a b a d = 0) (h14 : ∀ a b c, f a b c a = 0) (h23 : ∀ a b d, f a b b d = 0) (h24 : ∀ a b c, f a b c b = 0) (h34 : ∀ a b c, f a b c c = 0) : ∀ xs : List α, S xs (fun a => S xs fun b => S xs fun c => S xs (f a b c)) = A4 (s4 f) xs
  | [] => rfl
  | x :: r => by
    have e : S (x :: r) (fun a => S (x :: r) fun b => S (x :: r) fun c => S (x :: r) (f a b c)) = S r (fun b => S r fun c => S r (f x b c)) + (S r (fun a => S r fun c => S r (f a x c)) + (S r (fun a => S r fun b => S r (f a b x)) + (S r (fun a => S r fun b => S r fun c => f a b c x) + S r (fun a => S r fun b => S r fun c => S r (f a b c))))) := by
      have z1 : ∀ a c, S r (f a a c) = 0 := fun a c => (S_congr fun d _ => h12 a c d).trans (S_zero r)
      have z2 : ∀ a b, S r (f a b a) = 0 := fun a b => (S_congr fun d _ => h13 a b d).trans (S_zero r)
      have z3 : ∀ a b, S r (f a b b) = 0 := fun a b => (S_congr fun d _ => h23 a b d).trans (S_zero r)
      simp only [S_cons, S_add, h12, h13, h14, h23, h24, h34, Nat.zero_add, S_zero, z1, z2, z3]
      omega
    rw [e, O4 h12 h13 h14 h23 h24 h34 r, O3 (f := f x) (fun a c => h23 x a c) (fun a b => h24 x a b) (fun a b => h34 x a b),
      O3 (f := fun a c d => f a x c d) (fun a c => h13 a x c) (fun a b => h14 a x b) (fun a b => h34 a x b),
      O3 (f := fun a b d => f a b x d) (fun a c => h12 a x c) (fun a b => h14 a b x) (fun a b => h24 a b x),
      O3 (f := fun a b c => f a b c x) (fun a c => h12 a c x) (fun a b => h13 a b x) (fun a b => h23 a b x), A4]
    unfold s4
    rw [A3_add, A3_add, A3_add]
    omega
end
end FQ

namespace K11
open PySem PySem.Spec PyProof.Rows L2 Evl EB
def topS (i : Nat) : Stmt := PySem.Challenge.pw_everybowl_k11_convex_fours_three_ways.main.body.getD i (.Pass ⟨0, 0, 0, 0⟩)
abbrev s_Repeated : Stmt := inClass (topS 7) 0
theorem sc_Repeated : FnScope ["self", "number"] ["self", "number"] (defScope s_Repeated) := ⟨rfl, rfl, rfl, by decide +kernel, rfl, by decide +kernel, by decide +kernel⟩
abbrev s_NoPoint : Stmt := inClass (topS 6) 0
theorem sc_NoPoint : FnScope ["self", "number"] ["self", "number"] (defScope s_NoPoint) := ⟨rfl, rfl, rfl, by decide +kernel, rfl, by decide +kernel, by decide +kernel⟩
abbrev s_TooFar : Stmt := inClass (topS 5) 0
theorem sc_TooFar : FnScope ["self", "value"] ["self", "value"] (defScope s_TooFar) := ⟨rfl, rfl, rfl, by decide +kernel, rfl, by decide +kernel, by decide +kernel⟩
abbrev s_OnLine : Stmt := inClass (topS 8) 0
theorem sc_OnLine : FnScope ["self", "numbers"] ["self", "numbers"] (defScope s_OnLine) := ⟨rfl, rfl, rfl, by decide +kernel, rfl, by decide +kernel, by decide +kernel⟩
abbrev s_WrongCount : Stmt := inClass (topS 4) 0
theorem sc_WrongCount : FnScope ["self", "count"] ["self", "count"] (defScope s_WrongCount) := ⟨rfl, rfl, rfl, by decide +kernel, rfl, by decide +kernel, by decide +kernel⟩
abbrev s_corners_by_lines : Stmt := topS 42
abbrev N_corners_by_lines : List Str := ["row", "n", "j", "size"]
theorem sc_corners_by_lines : FnScope N_corners_by_lines ["row"] (defScope s_corners_by_lines) := ⟨rfl, rfl, rfl, by decide +kernel, rfl, by decide +kernel, by decide +kernel⟩
abbrev s_tally : Stmt := topS 37
abbrev N_tally : List Str := ["counts", "length", "entry", "j"]
theorem sc_tally : FnScope N_tally ["counts", "length"] (defScope s_tally) := ⟨rfl, rfl, rfl, by decide +kernel, rfl, by decide +kernel, by decide +kernel⟩
abbrev s_Floor___len__ : Stmt := inClass (topS 32) 5
abbrev N_Floor___len__ : List Str := ["self"]
theorem sc_Floor___len__ : FnScope N_Floor___len__ ["self"] (defScope s_Floor___len__) := ⟨rfl, rfl, rfl, by decide +kernel, rfl, by decide +kernel, by decide +kernel⟩
abbrev s_others : Stmt := topS 35
abbrev N_others : List Str := ["n", "number", "k"]
theorem sc_others : FnScope N_others ["n", "number"] (defScope s_others) := ⟨rfl, rfl, rfl, by decide +kernel, rfl, by decide +kernel, by decide +kernel⟩
abbrev s_bare_area : Stmt := topS 20
abbrev N_bare_area : List Str := ["p", "q", "r"]
theorem sc_bare_area : FnScope N_bare_area ["p", "q", "r"] (defScope s_bare_area) := ⟨rfl, rfl, rfl, by decide +kernel, rfl, by decide +kernel, by decide +kernel⟩
abbrev s_check_number : Stmt := topS 12
abbrev N_check_number : List Str := ["number", "n"]
theorem sc_check_number : FnScope N_check_number ["number", "n"] (defScope s_check_number) := ⟨rfl, rfl, rfl, by decide +kernel, rfl, by decide +kernel, by decide +kernel⟩
abbrev s_check_numbers : Stmt := topS 13
abbrev N_check_numbers : List Str := ["numbers", "n", "place", "number"]
theorem sc_check_numbers : FnScope N_check_numbers ["numbers", "n"] (defScope s_check_numbers) := ⟨rfl, rfl, rfl, by decide +kernel, rfl, by decide +kernel, by decide +kernel⟩
abbrev s_Floor_left_of : Stmt := inClass (topS 32) 12
abbrev N_Floor_left_of : List Str := ["self", "a", "b", "start", "end", "c", "point"]
theorem sc_Floor_left_of : FnScope N_Floor_left_of ["self", "a", "b"] (defScope s_Floor_left_of) := ⟨rfl, rfl, rfl, by decide +kernel, rfl, by decide +kernel, by decide +kernel⟩
abbrev s_lines_and_lefts : Stmt := topS 40
abbrev N_lines_and_lefts : List Str := ["floor", "n", "a", "b"]
theorem sc_lines_and_lefts : FnScope N_lines_and_lefts ["floor"] (defScope s_lines_and_lefts) := ⟨rfl, rfl, rfl, by decide +kernel, rfl, by decide +kernel, by decide +kernel⟩
abbrev s_line_row : Stmt := topS 39
abbrev N_line_row : List Str := ["floor", "line", "left"]
theorem sc_line_row : FnScope N_line_row ["floor"] (defScope s_line_row) := ⟨rfl, rfl, rfl, by decide +kernel, rfl, by decide +kernel, by decide +kernel⟩
abbrev s_corner_row : Stmt := topS 41
abbrev N_corner_row : List Str := ["floor"]
theorem sc_corner_row : FnScope N_corner_row ["floor"] (defScope s_corner_row) := ⟨rfl, rfl, rfl, by decide +kernel, rfl, by decide +kernel, by decide +kernel⟩
abbrev s__law_whole : Stmt := topS 49
abbrev N__law_whole : List Str := ["thing"]
theorem sc__law_whole : FnScope N__law_whole ["thing"] (defScope s__law_whole) := ⟨rfl, rfl, rfl, by decide +kernel, rfl, by decide +kernel, by decide +kernel⟩
abbrev s_check_range : Stmt := topS 11
abbrev N_check_range : List Str := ["value", "least", "most"]
theorem sc_check_range : FnScope N_check_range ["value", "least", "most"] (defScope s_check_range) := ⟨rfl, rfl, rfl, by decide +kernel, rfl, by decide +kernel, by decide +kernel⟩
abbrev s_choose : Stmt := topS 15
abbrev N_choose : List Str := ["n", "k"]
theorem sc_choose : FnScope N_choose ["n", "k"] (defScope s_choose) := ⟨rfl, rfl, rfl, by decide +kernel, rfl, by decide +kernel, by decide +kernel⟩
abbrev s_first_behind : Stmt := topS 17
abbrev N_first_behind : List Str := ["part"]
theorem sc_first_behind : FnScope N_first_behind ["part"] (defScope s_first_behind) := ⟨rfl, rfl, rfl, by decide +kernel, rfl, by decide +kernel, by decide +kernel⟩
abbrev s_subset_list : Stmt := topS 16
abbrev N_subset_list : List Str := ["n", "size", "found", "_", "part", "k"]
theorem sc_subset_list : FnScope N_subset_list ["n", "size"] (defScope s_subset_list) := ⟨rfl, rfl, rfl, by decide +kernel, rfl, by decide +kernel, by decide +kernel⟩
abbrev s_is_within : Stmt := topS 21
abbrev N_is_within : List Str := ["p", "q", "r", "s"]
theorem sc_is_within : FnScope N_is_within ["p", "q", "r", "s"] (defScope s_is_within) := ⟨rfl, rfl, rfl, by decide +kernel, rfl, by decide +kernel, by decide +kernel⟩
abbrev s_is_around : Stmt := topS 29
abbrev N_is_around : List Str := ["floor", "three", "number", "a", "b", "c"]
theorem sc_is_around : FnScope N_is_around ["floor", "three", "number"] (defScope s_is_around) := ⟨rfl, rfl, rfl, by decide +kernel, rfl, by decide +kernel, by decide +kernel⟩
abbrev s_inner_pairs : Stmt := topS 27
abbrev N_inner_pairs : List Str := ["floor", "n", "three", "number"]
theorem sc_inner_pairs : FnScope N_inner_pairs ["floor"] (defScope s_inner_pairs) := ⟨rfl, rfl, rfl, by decide +kernel, rfl, by decide +kernel, by decide +kernel⟩
abbrev s_convex_fours : Stmt := topS 28
abbrev N_convex_fours : List Str := ["floor"]
theorem sc_convex_fours : FnScope N_convex_fours ["floor"] (defScope s_convex_fours) := ⟨rfl, rfl, rfl, by decide +kernel, rfl, by decide +kernel, by decide +kernel⟩
abbrev s__law_counts_hold : Stmt := topS 59
abbrev N__law_counts_hold : List Str := ["floor", "many", "fours", "count", "k", "got", "row", "total", "j"]
theorem sc__law_counts_hold : FnScope N__law_counts_hold ["floor", "many", "fours", "count"] (defScope s__law_counts_hold) := ⟨rfl, rfl, rfl, by decide +kernel, rfl, by decide +kernel, by decide +kernel⟩
abbrev s__law_pairs_hold : Stmt := topS 58
abbrev N__law_pairs_hold : List Str := ["floor", "pairs", "k", "got"]
theorem sc__law_pairs_hold : FnScope N__law_pairs_hold ["floor", "pairs"] (defScope s__law_pairs_hold) := ⟨rfl, rfl, rfl, by decide +kernel, rfl, by decide +kernel, by decide +kernel⟩
abbrev s__law_fours : Stmt := topS 51
abbrev N__law_fours : List Str := ["many", "rows", "a", "b", "c", "d"]
theorem sc__law_fours : FnScope N__law_fours ["many"] (defScope s__law_fours) := ⟨rfl, rfl, rfl, by decide +kernel, rfl, by decide +kernel, by decide +kernel⟩
abbrev s__law_area : Stmt := topS 46
abbrev N__law_area : List Str := ["p", "q", "r", "first", "second", "third"]
theorem sc__law_area : FnScope N__law_area ["p", "q", "r"] (defScope s__law_area) := ⟨rfl, rfl, rfl, by decide +kernel, rfl, by decide +kernel, by decide +kernel⟩
abbrev s__law_is_within : Stmt := topS 50
abbrev N__law_is_within : List Str := ["p", "a", "b", "c", "one", "two", "three"]
theorem sc__law_is_within : FnScope N__law_is_within ["p", "a", "b", "c"] (defScope s__law_is_within) := ⟨rfl, rfl, rfl, by decide +kernel, rfl, by decide +kernel, by decide +kernel⟩
abbrev s__law_inner : Stmt := topS 52
abbrev N__law_inner : List Str := ["points", "four", "number", "a", "b", "c", "k"]
theorem sc__law_inner : FnScope N__law_inner ["points", "four"] (defScope s__law_inner) := ⟨rfl, rfl, rfl, by decide +kernel, rfl, by decide +kernel, by decide +kernel⟩
abbrev s__law_pairs : Stmt := topS 57
abbrev N__law_pairs : List Str := ["points", "pairs", "four", "inner", "rest", "k"]
theorem sc__law_pairs : FnScope N__law_pairs ["points"] (defScope s__law_pairs) := ⟨rfl, rfl, rfl, by decide +kernel, rfl, by decide +kernel, by decide +kernel⟩
abbrev s_rest_of : Stmt := topS 30
abbrev N_rest_of : List Str := ["numbers", "number", "member"]
theorem sc_rest_of : FnScope N_rest_of ["numbers", "number"] (defScope s_rest_of) := ⟨rfl, rfl, rfl, by decide +kernel, rfl, by decide +kernel, by decide +kernel⟩
abbrev s_inner_of : Stmt := topS 23
abbrev N_inner_of : List Str := ["floor", "a", "b", "c", "d", "four", "number"]
theorem sc_inner_of : FnScope N_inner_of ["floor", "a", "b", "c", "d"] (defScope s_inner_of) := ⟨rfl, rfl, rfl, by decide +kernel, rfl, by decide +kernel, by decide +kernel⟩
abbrev s_left_among : Stmt := topS 26
abbrev N_left_among : List Str := ["floor", "a", "b", "four", "number"]
theorem sc_left_among : FnScope N_left_among ["floor", "a", "b", "four"] (defScope s_left_among) := ⟨rfl, rfl, rfl, by decide +kernel, rfl, by decide +kernel, by decide +kernel⟩
abbrev s_diagonal : Stmt := topS 25
abbrev N_diagonal : List Str := ["floor", "four", "first", "last"]
theorem sc_diagonal : FnScope N_diagonal ["floor", "four"] (defScope s_diagonal) := ⟨rfl, rfl, rfl, by decide +kernel, rfl, by decide +kernel, by decide +kernel⟩
abbrev s_split : Stmt := topS 24
abbrev N_split : List Str := ["floor", "a", "b", "c", "d", "inner", "four", "part", "rest", "number"]
theorem sc_split : FnScope N_split ["floor", "a", "b", "c", "d"] (defScope s_split) := ⟨rfl, rfl, rfl, by decide +kernel, rfl, by decide +kernel, by decide +kernel⟩
abbrev s__law_told : Stmt := topS 55
abbrev N__law_told : List Str := ["name", "floor", "numbers", "a", "b", "c", "d", "got", "e", "alone"]
theorem sc__law_told : FnScope N__law_told ["name", "floor", "numbers"] (defScope s__law_told) := ⟨rfl, rfl, rfl, by decide +kernel, rfl, by decide +kernel, by decide +kernel⟩
abbrev s__law_diagonals : Stmt := topS 53
abbrev N__law_diagonals : List Str := ["points", "four", "p", "k", "q", "rest", "number", "r", "s", "one", "two"]
theorem sc__law_diagonals : FnScope N__law_diagonals ["points", "four"] (defScope s__law_diagonals) := ⟨rfl, rfl, rfl, by decide +kernel, rfl, by decide +kernel, by decide +kernel⟩
abbrev s__law_dues : Stmt := topS 54
abbrev N__law_dues : List Str := ["points", "numbers", "k", "four", "inner", "parts", "whole"]
theorem sc__law_dues : FnScope N__law_dues ["points", "numbers"] (defScope s__law_dues) := ⟨rfl, rfl, rfl, by decide +kernel, rfl, by decide +kernel, by decide +kernel⟩
abbrev s__law_four_holds : Stmt := topS 56
abbrev N__law_four_holds : List Str := ["floor", "points", "numbers", "dues"]
theorem sc__law_four_holds : FnScope N__law_four_holds ["floor", "points", "numbers"] (defScope s__law_four_holds) := ⟨rfl, rfl, rfl, by decide +kernel, rfl, by decide +kernel, by decide +kernel⟩
abbrev s__law_digits : Stmt := topS 60
abbrev N__law_digits : List Str := ["c", "base", "many", "digits", "k"]
theorem sc__law_digits : FnScope N__law_digits ["c", "base", "many"] (defScope s__law_digits) := ⟨rfl, rfl, rfl, by decide +kernel, rfl, by decide +kernel, by decide +kernel⟩
abbrev s__law_cell : Stmt := topS 44
abbrev N__law_cell : List Str := ["cells", "place"]
theorem sc__law_cell : FnScope N__law_cell ["cells", "place"] (defScope s__law_cell) := ⟨rfl, rfl, rfl, by decide +kernel, rfl, by decide +kernel, by decide +kernel⟩
abbrev s__law_order : Stmt := topS 61
abbrev N__law_order : List Str := ["c", "pool", "order", "k"]
theorem sc__law_order : FnScope N__law_order ["c"] (defScope s__law_order) := ⟨rfl, rfl, rfl, by decide +kernel, rfl, by decide +kernel, by decide +kernel⟩
abbrev s_check_turns : Stmt := topS 34
abbrev N_check_turns : List Str := ["points", "a", "b", "c"]
theorem sc_check_turns : FnScope N_check_turns ["points"] (defScope s_check_turns) := ⟨rfl, rfl, rfl, by decide +kernel, rfl, by decide +kernel, by decide +kernel⟩
abbrev s_check_point : Stmt := topS 33
abbrev N_check_point : List Str := ["point", "value"]
theorem sc_check_point : FnScope N_check_point ["point"] (defScope s_check_point) := ⟨rfl, rfl, rfl, by decide +kernel, rfl, by decide +kernel, by decide +kernel⟩
abbrev s_check_count : Stmt := topS 10
abbrev N_check_count : List Str := ["members", "least", "most"]
theorem sc_check_count : FnScope N_check_count ["members", "least", "most"] (defScope s_check_count) := ⟨rfl, rfl, rfl, by decide +kernel, rfl, by decide +kernel, by decide +kernel⟩
abbrev s_Floor___init__ : Stmt := inClass (topS 32) 3
abbrev N_Floor___init__ : List Str := ["self", "points", "point"]
theorem sc_Floor___init__ : FnScope N_Floor___init__ ["self", "points"] (defScope s_Floor___init__) := ⟨rfl, rfl, rfl, by decide +kernel, rfl, by decide +kernel, by decide +kernel⟩
abbrev s__law_made : Stmt := topS 48
abbrev N__law_made : List Str := ["points", "floor", "e", "alone"]
theorem sc__law_made : FnScope N__law_made ["points"] (defScope s__law_made) := ⟨rfl, rfl, rfl, by decide +kernel, rfl, by decide +kernel, by decide +kernel⟩
abbrev s__law_refusal : Stmt := topS 47
abbrev N__law_refusal : List Str := ["points", "p", "value", "a", "b", "c"]
theorem sc__law_refusal : FnScope N__law_refusal ["points"] (defScope s__law_refusal) := ⟨rfl, rfl, rfl, by decide +kernel, rfl, by decide +kernel, by decide +kernel⟩
abbrev s__law_drawn : Stmt := topS 45
abbrev N__law_drawn : List Str := ["cells", "many", "wide", "across", "up", "points", "k", "c", "x", "y"]
theorem sc__law_drawn : FnScope N__law_drawn ["cells", "many", "wide"] (defScope s__law_drawn) := ⟨rfl, rfl, rfl, by decide +kernel, rfl, by decide +kernel, by decide +kernel⟩
abbrev s_law : Stmt := topS 62
abbrev N_law : List Str := ["script", "cells", "c", "many", "points", "due", "floor", "order", "rows", "k", "four", "menu", "odd", "numbers", "pairs", "fours"]
theorem sc_law : FnScope N_law ["script"] (defScope s_law) := ⟨rfl, rfl, rfl, by decide +kernel, rfl, by decide +kernel, by decide +kernel⟩
/-- what the top has written -/
structure Tx (K : PySem.W.Frag) (mg : Str → Option Value) where
  a_Repeated : Addr
  i_Repeated : Addr
  fd_Repeated : FuncData
  g_Repeated : mg "Repeated" = some (.ref a_Repeated)
  X_Repeated : ErT K a_Repeated i_Repeated "number"
  F_Repeated : Fun K "__init__" "Repeated.__init__" s_Repeated i_Repeated fd_Repeated
  a_NoPoint : Addr
  i_NoPoint : Addr
  fd_NoPoint : FuncData
  g_NoPoint : mg "NoPoint" = some (.ref a_NoPoint)
  X_NoPoint : ErT K a_NoPoint i_NoPoint "number"
  F_NoPoint : Fun K "__init__" "NoPoint.__init__" s_NoPoint i_NoPoint fd_NoPoint
  a_TooFar : Addr
  i_TooFar : Addr
  fd_TooFar : FuncData
  g_TooFar : mg "TooFar" = some (.ref a_TooFar)
  X_TooFar : ErT K a_TooFar i_TooFar "value"
  F_TooFar : Fun K "__init__" "TooFar.__init__" s_TooFar i_TooFar fd_TooFar
  a_OnLine : Addr
  i_OnLine : Addr
  fd_OnLine : FuncData
  g_OnLine : mg "OnLine" = some (.ref a_OnLine)
  X_OnLine : ErT K a_OnLine i_OnLine "numbers"
  F_OnLine : Fun K "__init__" "OnLine.__init__" s_OnLine i_OnLine fd_OnLine
  a_WrongCount : Addr
  i_WrongCount : Addr
  fd_WrongCount : FuncData
  g_WrongCount : mg "WrongCount" = some (.ref a_WrongCount)
  X_WrongCount : ErT K a_WrongCount i_WrongCount "count"
  F_WrongCount : Fun K "__init__" "WrongCount.__init__" s_WrongCount i_WrongCount fd_WrongCount
  a_BowlError : Addr
  g_BowlError : mg "BowlError" = some (.ref a_BowlError)
  a_Floor : Addr
  mc_Floor : Value
  g_Floor : mg "Floor" = some (.ref a_Floor)
  C_Floor : Cls K a_Floor
  cr_Floor : ClX.CRead K a_Floor mc_Floor
  n_Floor_points : NoAttr K a_Floor "points"
  u_Floor_LEAST : Value
  cv_Floor_LEAST : ClX.CVal K a_Floor mc_Floor "LEAST" (.int 3) u_Floor_LEAST
  u_Floor_MOST : Value
  cv_Floor_MOST : ClX.CVal K a_Floor mc_Floor "MOST" (.int 10) u_Floor_MOST
  u_Floor_FAR : Value
  cv_Floor_FAR : ClX.CVal K a_Floor mc_Floor "FAR" (.int 1000000) u_Floor_FAR
  ca_Floor : PySem.W.findIn K (.ref a_Floor) "__class__" = some (some (.builtin "object.__class__"))
  mo_Floor : PySem.W.mroIn K a_Floor (.type "object") = some true
  ki_Floor : PySem.W.kitOne K (.ref a_Floor) (.ref a_Floor) = some true
  gn : PySem.W.specialIn K (.builtin "object.__class__") "__get__" = some (some (.builtin "getset_descriptor.__get__"))
  tkc : PySem.W.takesIn K (.builtin "object.__class__") = some true
  a_corners_by_lines : Addr
  fd_corners_by_lines : FuncData
  F_corners_by_lines : Fun K "corners_by_lines" "corners_by_lines" s_corners_by_lines a_corners_by_lines fd_corners_by_lines
  g_corners_by_lines : mg "corners_by_lines" = some (.ref a_corners_by_lines)
  a_tally : Addr
  fd_tally : FuncData
  F_tally : Fun K "tally" "tally" s_tally a_tally fd_tally
  g_tally : mg "tally" = some (.ref a_tally)
  a_Floor___len__ : Addr
  fd_Floor___len__ : FuncData
  F_Floor___len__ : Fun K "__len__" "Floor.__len__" s_Floor___len__ a_Floor___len__ fd_Floor___len__
  m_Floor___len__ : Meth K a_Floor "__len__" a_Floor___len__
  a_others : Addr
  fd_others : FuncData
  F_others : Fun K "others" "others" s_others a_others fd_others
  g_others : mg "others" = some (.ref a_others)
  a_bare_area : Addr
  fd_bare_area : FuncData
  F_bare_area : Fun K "bare_area" "bare_area" s_bare_area a_bare_area fd_bare_area
  g_bare_area : mg "bare_area" = some (.ref a_bare_area)
  a_check_number : Addr
  fd_check_number : FuncData
  F_check_number : Fun K "check_number" "check_number" s_check_number a_check_number fd_check_number
  g_check_number : mg "check_number" = some (.ref a_check_number)
  a_check_numbers : Addr
  fd_check_numbers : FuncData
  F_check_numbers : Fun K "check_numbers" "check_numbers" s_check_numbers a_check_numbers fd_check_numbers
  g_check_numbers : mg "check_numbers" = some (.ref a_check_numbers)
  a_Floor_left_of : Addr
  fd_Floor_left_of : FuncData
  F_Floor_left_of : Fun K "left_of" "Floor.left_of" s_Floor_left_of a_Floor_left_of fd_Floor_left_of
  m_Floor_left_of : Meth K a_Floor "left_of" a_Floor_left_of
  a_lines_and_lefts : Addr
  fd_lines_and_lefts : FuncData
  F_lines_and_lefts : Fun K "lines_and_lefts" "lines_and_lefts" s_lines_and_lefts a_lines_and_lefts fd_lines_and_lefts
  g_lines_and_lefts : mg "lines_and_lefts" = some (.ref a_lines_and_lefts)
  a_line_row : Addr
  fd_line_row : FuncData
  F_line_row : Fun K "line_row" "line_row" s_line_row a_line_row fd_line_row
  g_line_row : mg "line_row" = some (.ref a_line_row)
  a_corner_row : Addr
  fd_corner_row : FuncData
  F_corner_row : Fun K "corner_row" "corner_row" s_corner_row a_corner_row fd_corner_row
  g_corner_row : mg "corner_row" = some (.ref a_corner_row)
  a__law_whole : Addr
  fd__law_whole : FuncData
  F__law_whole : Fun K "_law_whole" "_law_whole" s__law_whole a__law_whole fd__law_whole
  g__law_whole : mg "_law_whole" = some (.ref a__law_whole)
  a_check_range : Addr
  fd_check_range : FuncData
  F_check_range : Fun K "check_range" "check_range" s_check_range a_check_range fd_check_range
  g_check_range : mg "check_range" = some (.ref a_check_range)
  a_choose : Addr
  fd_choose : FuncData
  F_choose : Fun K "choose" "choose" s_choose a_choose fd_choose
  g_choose : mg "choose" = some (.ref a_choose)
  a_first_behind : Addr
  fd_first_behind : FuncData
  F_first_behind : Fun K "first_behind" "first_behind" s_first_behind a_first_behind fd_first_behind
  g_first_behind : mg "first_behind" = some (.ref a_first_behind)
  a_subset_list : Addr
  fd_subset_list : FuncData
  F_subset_list : Fun K "subset_list" "subset_list" s_subset_list a_subset_list fd_subset_list
  g_subset_list : mg "subset_list" = some (.ref a_subset_list)
  a_is_within : Addr
  fd_is_within : FuncData
  F_is_within : Fun K "is_within" "is_within" s_is_within a_is_within fd_is_within
  g_is_within : mg "is_within" = some (.ref a_is_within)
  a_is_around : Addr
  fd_is_around : FuncData
  F_is_around : Fun K "is_around" "is_around" s_is_around a_is_around fd_is_around
  g_is_around : mg "is_around" = some (.ref a_is_around)
  a_inner_pairs : Addr
  fd_inner_pairs : FuncData
  F_inner_pairs : Fun K "inner_pairs" "inner_pairs" s_inner_pairs a_inner_pairs fd_inner_pairs
  g_inner_pairs : mg "inner_pairs" = some (.ref a_inner_pairs)
  a_convex_fours : Addr
  fd_convex_fours : FuncData
  F_convex_fours : Fun K "convex_fours" "convex_fours" s_convex_fours a_convex_fours fd_convex_fours
  g_convex_fours : mg "convex_fours" = some (.ref a_convex_fours)
  a__law_counts_hold : Addr
  fd__law_counts_hold : FuncData
  F__law_counts_hold : Fun K "_law_counts_hold" "_law_counts_hold" s__law_counts_hold a__law_counts_hold fd__law_counts_hold
  g__law_counts_hold : mg "_law_counts_hold" = some (.ref a__law_counts_hold)
  a__law_pairs_hold : Addr
  fd__law_pairs_hold : FuncData
  F__law_pairs_hold : Fun K "_law_pairs_hold" "_law_pairs_hold" s__law_pairs_hold a__law_pairs_hold fd__law_pairs_hold
  g__law_pairs_hold : mg "_law_pairs_hold" = some (.ref a__law_pairs_hold)
  a__law_fours : Addr
  fd__law_fours : FuncData
  F__law_fours : Fun K "_law_fours" "_law_fours" s__law_fours a__law_fours fd__law_fours
  g__law_fours : mg "_law_fours" = some (.ref a__law_fours)
  a__law_area : Addr
  fd__law_area : FuncData
  F__law_area : Fun K "_law_area" "_law_area" s__law_area a__law_area fd__law_area
  g__law_area : mg "_law_area" = some (.ref a__law_area)
  a__law_is_within : Addr
  fd__law_is_within : FuncData
  F__law_is_within : Fun K "_law_is_within" "_law_is_within" s__law_is_within a__law_is_within fd__law_is_within
  g__law_is_within : mg "_law_is_within" = some (.ref a__law_is_within)
  a__law_inner : Addr
  fd__law_inner : FuncData
  F__law_inner : Fun K "_law_inner" "_law_inner" s__law_inner a__law_inner fd__law_inner
  g__law_inner : mg "_law_inner" = some (.ref a__law_inner)
  a__law_pairs : Addr
  fd__law_pairs : FuncData
  F__law_pairs : Fun K "_law_pairs" "_law_pairs" s__law_pairs a__law_pairs fd__law_pairs
  g__law_pairs : mg "_law_pairs" = some (.ref a__law_pairs)
  a_rest_of : Addr
  fd_rest_of : FuncData
  F_rest_of : Fun K "rest_of" "rest_of" s_rest_of a_rest_of fd_rest_of
  g_rest_of : mg "rest_of" = some (.ref a_rest_of)
  a_inner_of : Addr
  fd_inner_of : FuncData
  F_inner_of : Fun K "inner_of" "inner_of" s_inner_of a_inner_of fd_inner_of
  g_inner_of : mg "inner_of" = some (.ref a_inner_of)
  a_left_among : Addr
  fd_left_among : FuncData
  F_left_among : Fun K "left_among" "left_among" s_left_among a_left_among fd_left_among
  g_left_among : mg "left_among" = some (.ref a_left_among)
  a_diagonal : Addr
  fd_diagonal : FuncData
  F_diagonal : Fun K "diagonal" "diagonal" s_diagonal a_diagonal fd_diagonal
  g_diagonal : mg "diagonal" = some (.ref a_diagonal)
  a_split : Addr
  fd_split : FuncData
  F_split : Fun K "split" "split" s_split a_split fd_split
  g_split : mg "split" = some (.ref a_split)
  a__law_told : Addr
  fd__law_told : FuncData
  F__law_told : Fun K "_law_told" "_law_told" s__law_told a__law_told fd__law_told
  g__law_told : mg "_law_told" = some (.ref a__law_told)
  a__law_diagonals : Addr
  fd__law_diagonals : FuncData
  F__law_diagonals : Fun K "_law_diagonals" "_law_diagonals" s__law_diagonals a__law_diagonals fd__law_diagonals
  g__law_diagonals : mg "_law_diagonals" = some (.ref a__law_diagonals)
  a__law_dues : Addr
  fd__law_dues : FuncData
  F__law_dues : Fun K "_law_dues" "_law_dues" s__law_dues a__law_dues fd__law_dues
  g__law_dues : mg "_law_dues" = some (.ref a__law_dues)
  a__law_four_holds : Addr
  fd__law_four_holds : FuncData
  F__law_four_holds : Fun K "_law_four_holds" "_law_four_holds" s__law_four_holds a__law_four_holds fd__law_four_holds
  g__law_four_holds : mg "_law_four_holds" = some (.ref a__law_four_holds)
  a__law_digits : Addr
  fd__law_digits : FuncData
  F__law_digits : Fun K "_law_digits" "_law_digits" s__law_digits a__law_digits fd__law_digits
  g__law_digits : mg "_law_digits" = some (.ref a__law_digits)
  a__law_cell : Addr
  fd__law_cell : FuncData
  F__law_cell : Fun K "_law_cell" "_law_cell" s__law_cell a__law_cell fd__law_cell
  g__law_cell : mg "_law_cell" = some (.ref a__law_cell)
  a__law_order : Addr
  fd__law_order : FuncData
  F__law_order : Fun K "_law_order" "_law_order" s__law_order a__law_order fd__law_order
  g__law_order : mg "_law_order" = some (.ref a__law_order)
  a_check_turns : Addr
  fd_check_turns : FuncData
  F_check_turns : Fun K "check_turns" "check_turns" s_check_turns a_check_turns fd_check_turns
  g_check_turns : mg "check_turns" = some (.ref a_check_turns)
  a_check_point : Addr
  fd_check_point : FuncData
  F_check_point : Fun K "check_point" "check_point" s_check_point a_check_point fd_check_point
  g_check_point : mg "check_point" = some (.ref a_check_point)
  a_check_count : Addr
  fd_check_count : FuncData
  F_check_count : Fun K "check_count" "check_count" s_check_count a_check_count fd_check_count
  g_check_count : mg "check_count" = some (.ref a_check_count)
  a_Floor___init__ : Addr
  fd_Floor___init__ : FuncData
  F_Floor___init__ : Fun K "__init__" "Floor.__init__" s_Floor___init__ a_Floor___init__ fd_Floor___init__
  M_Floor : Mk K a_Floor a_Floor___init__
  a__law_made : Addr
  fd__law_made : FuncData
  F__law_made : Fun K "_law_made" "_law_made" s__law_made a__law_made fd__law_made
  g__law_made : mg "_law_made" = some (.ref a__law_made)
  a__law_refusal : Addr
  fd__law_refusal : FuncData
  F__law_refusal : Fun K "_law_refusal" "_law_refusal" s__law_refusal a__law_refusal fd__law_refusal
  g__law_refusal : mg "_law_refusal" = some (.ref a__law_refusal)
  a__law_drawn : Addr
  fd__law_drawn : FuncData
  F__law_drawn : Fun K "_law_drawn" "_law_drawn" s__law_drawn a__law_drawn fd__law_drawn
  g__law_drawn : mg "_law_drawn" = some (.ref a__law_drawn)
  a_law : Addr
  fd_law : FuncData
  F_law : Fun K "law" "law" s_law a_law fd_law
  g_law : mg "law" = some (.ref a_law)
  g_comb : mg "comb" = some (.builtin "math.comb")
  z_ValueError : mg "ValueError" = none
  z_abs : mg "abs" = none
  z_bool : mg "bool" = none
  z_enumerate : mg "enumerate" = none
  z_int : mg "int" = none
  z_isinstance : mg "isinstance" = none
  z_len : mg "len" = none
  z_list : mg "list" = none
  z_range : mg "range" = none
  z_repr : mg "repr" = none
  z_sorted : mg "sorted" = none
  z_sum : mg "sum" = none
  z_tuple : mg "tuple" = none
  k_WrongCount_BowlError : PySem.W.kitOne K (.ref a_WrongCount) (.ref a_BowlError) = some true
  k_WrongCount_ValueError : PySem.W.kitOne K (.ref a_WrongCount) (.type "ValueError") = some true
  k_TooFar_BowlError : PySem.W.kitOne K (.ref a_TooFar) (.ref a_BowlError) = some true
  k_TooFar_ValueError : PySem.W.kitOne K (.ref a_TooFar) (.type "ValueError") = some true
  k_OnLine_BowlError : PySem.W.kitOne K (.ref a_OnLine) (.ref a_BowlError) = some true
  k_OnLine_ValueError : PySem.W.kitOne K (.ref a_OnLine) (.type "ValueError") = some true
  k_NoPoint_BowlError : PySem.W.kitOne K (.ref a_NoPoint) (.ref a_BowlError) = some true
  k_NoPoint_ValueError : PySem.W.kitOne K (.ref a_NoPoint) (.type "ValueError") = some true
  k_Repeated_BowlError : PySem.W.kitOne K (.ref a_Repeated) (.ref a_BowlError) = some true
  k_Repeated_ValueError : PySem.W.kitOne K (.ref a_Repeated) (.type "ValueError") = some true
  k_WrongCount_OnLine_TooFar : PySem.W.kitAny K (.ref a_WrongCount) [.ref a_OnLine, .ref a_TooFar] = some false
  k_TooFar_OnLine_WrongCount : PySem.W.kitAny K (.ref a_TooFar) [.ref a_OnLine, .ref a_WrongCount] = some false
  k_OnLine_TooFar_WrongCount : PySem.W.kitAny K (.ref a_OnLine) [.ref a_TooFar, .ref a_WrongCount] = some false
  k_NoPoint_Repeated_TooFar : PySem.W.kitAny K (.ref a_NoPoint) [.ref a_Repeated, .ref a_TooFar] = some false
  k_Repeated_NoPoint_TooFar : PySem.W.kitAny K (.ref a_Repeated) [.ref a_NoPoint, .ref a_TooFar] = some false
  x_WrongCount_WrongCount : PySem.W.exmOne K (.ref a_WrongCount) (.ref a_WrongCount) = some true
  x_TooFar_WrongCount : PySem.W.exmOne K (.ref a_TooFar) (.ref a_WrongCount) = some false
  x_TooFar_TooFar : PySem.W.exmOne K (.ref a_TooFar) (.ref a_TooFar) = some true
  x_OnLine_WrongCount : PySem.W.exmOne K (.ref a_OnLine) (.ref a_WrongCount) = some false
  x_OnLine_TooFar : PySem.W.exmOne K (.ref a_OnLine) (.ref a_TooFar) = some false
  x_OnLine_OnLine : PySem.W.exmOne K (.ref a_OnLine) (.ref a_OnLine) = some true
  x_NoPoint_NoPoint : PySem.W.exmOne K (.ref a_NoPoint) (.ref a_NoPoint) = some true
  x_Repeated_NoPoint : PySem.W.exmOne K (.ref a_Repeated) (.ref a_NoPoint) = some false
  x_Repeated_Repeated : PySem.W.exmOne K (.ref a_Repeated) (.ref a_Repeated) = some true
def Tx.M {K : PySem.W.Frag} {mg : Str → Option Value} (T : Tx K mg) : EC → Addr
  | .Repeated => T.a_Repeated
  | .NoPoint => T.a_NoPoint
  | .TooFar => T.a_TooFar
  | .OnLine => T.a_OnLine
  | .WrongCount => T.a_WrongCount
  | _ => 0
theorem b_Repeated {K : PySem.W.Frag} {mg : Str → Option Value} (T : Tx K mg) : Binds K T.fd_Repeated ["self", "number"] [] := T.F_Repeated.binds (ps := ["self", "number"]) fun _ _ _ _ _ _ us hl => match us, hl with | [_, _], _ => rfl
theorem b_NoPoint {K : PySem.W.Frag} {mg : Str → Option Value} (T : Tx K mg) : Binds K T.fd_NoPoint ["self", "number"] [] := T.F_NoPoint.binds (ps := ["self", "number"]) fun _ _ _ _ _ _ us hl => match us, hl with | [_, _], _ => rfl
theorem b_TooFar {K : PySem.W.Frag} {mg : Str → Option Value} (T : Tx K mg) : Binds K T.fd_TooFar ["self", "value"] [] := T.F_TooFar.binds (ps := ["self", "value"]) fun _ _ _ _ _ _ us hl => match us, hl with | [_, _], _ => rfl
theorem b_OnLine {K : PySem.W.Frag} {mg : Str → Option Value} (T : Tx K mg) : Binds K T.fd_OnLine ["self", "numbers"] [] := T.F_OnLine.binds (ps := ["self", "numbers"]) fun _ _ _ _ _ _ us hl => match us, hl with | [_, _], _ => rfl
theorem b_WrongCount {K : PySem.W.Frag} {mg : Str → Option Value} (T : Tx K mg) : Binds K T.fd_WrongCount ["self", "count"] [] := T.F_WrongCount.binds (ps := ["self", "count"]) fun _ _ _ _ _ _ us hl => match us, hl with | [_, _], _ => rfl
theorem b_corners_by_lines {K : PySem.W.Frag} {mg : Str → Option Value} (T : Tx K mg) : Binds K T.fd_corners_by_lines ["row"] [] := T.F_corners_by_lines.binds (ps := ["row"]) fun _ _ _ _ _ _ us hl => match us, hl with | [_], _ => rfl
theorem b_tally {K : PySem.W.Frag} {mg : Str → Option Value} (T : Tx K mg) : Binds K T.fd_tally ["counts", "length"] [] := T.F_tally.binds (ps := ["counts", "length"]) fun _ _ _ _ _ _ us hl => match us, hl with | [_, _], _ => rfl
theorem b_Floor___len__ {K : PySem.W.Frag} {mg : Str → Option Value} (T : Tx K mg) : Binds K T.fd_Floor___len__ ["self"] [] := T.F_Floor___len__.binds (ps := ["self"]) fun _ _ _ _ _ _ us hl => match us, hl with | [_], _ => rfl
theorem b_others {K : PySem.W.Frag} {mg : Str → Option Value} (T : Tx K mg) : Binds K T.fd_others ["n", "number"] [] := T.F_others.binds (ps := ["n", "number"]) fun _ _ _ _ _ _ us hl => match us, hl with | [_, _], _ => rfl
theorem b_bare_area {K : PySem.W.Frag} {mg : Str → Option Value} (T : Tx K mg) : Binds K T.fd_bare_area ["p", "q", "r"] [] := T.F_bare_area.binds (ps := ["p", "q", "r"]) fun _ _ _ _ _ _ us hl => match us, hl with | [_, _, _], _ => rfl
theorem b_check_number {K : PySem.W.Frag} {mg : Str → Option Value} (T : Tx K mg) : Binds K T.fd_check_number ["number", "n"] [] := T.F_check_number.binds (ps := ["number", "n"]) fun _ _ _ _ _ _ us hl => match us, hl with | [_, _], _ => rfl
theorem b_check_numbers {K : PySem.W.Frag} {mg : Str → Option Value} (T : Tx K mg) : Binds K T.fd_check_numbers ["numbers", "n"] [] := T.F_check_numbers.binds (ps := ["numbers", "n"]) fun _ _ _ _ _ _ us hl => match us, hl with | [_, _], _ => rfl
theorem b_Floor_left_of {K : PySem.W.Frag} {mg : Str → Option Value} (T : Tx K mg) : Binds K T.fd_Floor_left_of ["self", "a", "b"] [] := T.F_Floor_left_of.binds (ps := ["self", "a", "b"]) fun _ _ _ _ _ _ us hl => match us, hl with | [_, _, _], _ => rfl
theorem b_lines_and_lefts {K : PySem.W.Frag} {mg : Str → Option Value} (T : Tx K mg) : Binds K T.fd_lines_and_lefts ["floor"] [] := T.F_lines_and_lefts.binds (ps := ["floor"]) fun _ _ _ _ _ _ us hl => match us, hl with | [_], _ => rfl
theorem b_line_row {K : PySem.W.Frag} {mg : Str → Option Value} (T : Tx K mg) : Binds K T.fd_line_row ["floor"] [] := T.F_line_row.binds (ps := ["floor"]) fun _ _ _ _ _ _ us hl => match us, hl with | [_], _ => rfl
theorem b_corner_row {K : PySem.W.Frag} {mg : Str → Option Value} (T : Tx K mg) : Binds K T.fd_corner_row ["floor"] [] := T.F_corner_row.binds (ps := ["floor"]) fun _ _ _ _ _ _ us hl => match us, hl with | [_], _ => rfl
theorem b__law_whole {K : PySem.W.Frag} {mg : Str → Option Value} (T : Tx K mg) : Binds K T.fd__law_whole ["thing"] [] := T.F__law_whole.binds (ps := ["thing"]) fun _ _ _ _ _ _ us hl => match us, hl with | [_], _ => rfl
theorem b_check_range {K : PySem.W.Frag} {mg : Str → Option Value} (T : Tx K mg) : Binds K T.fd_check_range ["value", "least", "most"] [] := T.F_check_range.binds (ps := ["value", "least", "most"]) fun _ _ _ _ _ _ us hl => match us, hl with | [_, _, _], _ => rfl
theorem b_choose {K : PySem.W.Frag} {mg : Str → Option Value} (T : Tx K mg) : Binds K T.fd_choose ["n", "k"] [] := T.F_choose.binds (ps := ["n", "k"]) fun _ _ _ _ _ _ us hl => match us, hl with | [_, _], _ => rfl
theorem b_first_behind {K : PySem.W.Frag} {mg : Str → Option Value} (T : Tx K mg) : Binds K T.fd_first_behind ["part"] [] := T.F_first_behind.binds (ps := ["part"]) fun _ _ _ _ _ _ us hl => match us, hl with | [_], _ => rfl
theorem b_subset_list {K : PySem.W.Frag} {mg : Str → Option Value} (T : Tx K mg) : Binds K T.fd_subset_list ["n", "size"] [] := T.F_subset_list.binds (ps := ["n", "size"]) fun _ _ _ _ _ _ us hl => match us, hl with | [_, _], _ => rfl
theorem b_is_within {K : PySem.W.Frag} {mg : Str → Option Value} (T : Tx K mg) : Binds K T.fd_is_within ["p", "q", "r", "s"] [] := T.F_is_within.binds (ps := ["p", "q", "r", "s"]) fun _ _ _ _ _ _ us hl => match us, hl with | [_, _, _, _], _ => rfl
theorem b_is_around {K : PySem.W.Frag} {mg : Str → Option Value} (T : Tx K mg) : Binds K T.fd_is_around ["floor", "three", "number"] [] := T.F_is_around.binds (ps := ["floor", "three", "number"]) fun _ _ _ _ _ _ us hl => match us, hl with | [_, _, _], _ => rfl
theorem b_inner_pairs {K : PySem.W.Frag} {mg : Str → Option Value} (T : Tx K mg) : Binds K T.fd_inner_pairs ["floor"] [] := T.F_inner_pairs.binds (ps := ["floor"]) fun _ _ _ _ _ _ us hl => match us, hl with | [_], _ => rfl
theorem b_convex_fours {K : PySem.W.Frag} {mg : Str → Option Value} (T : Tx K mg) : Binds K T.fd_convex_fours ["floor"] [] := T.F_convex_fours.binds (ps := ["floor"]) fun _ _ _ _ _ _ us hl => match us, hl with | [_], _ => rfl
theorem b__law_counts_hold {K : PySem.W.Frag} {mg : Str → Option Value} (T : Tx K mg) : Binds K T.fd__law_counts_hold ["floor", "many", "fours", "count"] [] := T.F__law_counts_hold.binds (ps := ["floor", "many", "fours", "count"]) fun _ _ _ _ _ _ us hl => match us, hl with | [_, _, _, _], _ => rfl
theorem b__law_pairs_hold {K : PySem.W.Frag} {mg : Str → Option Value} (T : Tx K mg) : Binds K T.fd__law_pairs_hold ["floor", "pairs"] [] := T.F__law_pairs_hold.binds (ps := ["floor", "pairs"]) fun _ _ _ _ _ _ us hl => match us, hl with | [_, _], _ => rfl
theorem b__law_fours {K : PySem.W.Frag} {mg : Str → Option Value} (T : Tx K mg) : Binds K T.fd__law_fours ["many"] [] := T.F__law_fours.binds (ps := ["many"]) fun _ _ _ _ _ _ us hl => match us, hl with | [_], _ => rfl
theorem b__law_area {K : PySem.W.Frag} {mg : Str → Option Value} (T : Tx K mg) : Binds K T.fd__law_area ["p", "q", "r"] [] := T.F__law_area.binds (ps := ["p", "q", "r"]) fun _ _ _ _ _ _ us hl => match us, hl with | [_, _, _], _ => rfl
theorem b__law_is_within {K : PySem.W.Frag} {mg : Str → Option Value} (T : Tx K mg) : Binds K T.fd__law_is_within ["p", "a", "b", "c"] [] := T.F__law_is_within.binds (ps := ["p", "a", "b", "c"]) fun _ _ _ _ _ _ us hl => match us, hl with | [_, _, _, _], _ => rfl
theorem b__law_inner {K : PySem.W.Frag} {mg : Str → Option Value} (T : Tx K mg) : Binds K T.fd__law_inner ["points", "four"] [] := T.F__law_inner.binds (ps := ["points", "four"]) fun _ _ _ _ _ _ us hl => match us, hl with | [_, _], _ => rfl
theorem b__law_pairs {K : PySem.W.Frag} {mg : Str → Option Value} (T : Tx K mg) : Binds K T.fd__law_pairs ["points"] [] := T.F__law_pairs.binds (ps := ["points"]) fun _ _ _ _ _ _ us hl => match us, hl with | [_], _ => rfl
theorem b_rest_of {K : PySem.W.Frag} {mg : Str → Option Value} (T : Tx K mg) : Binds K T.fd_rest_of ["numbers", "number"] [] := T.F_rest_of.binds (ps := ["numbers", "number"]) fun _ _ _ _ _ _ us hl => match us, hl with | [_, _], _ => rfl
theorem b_inner_of {K : PySem.W.Frag} {mg : Str → Option Value} (T : Tx K mg) : Binds K T.fd_inner_of ["floor", "a", "b", "c", "d"] [] := T.F_inner_of.binds (ps := ["floor", "a", "b", "c", "d"]) fun _ _ _ _ _ _ us hl => match us, hl with | [_, _, _, _, _], _ => rfl
theorem b_left_among {K : PySem.W.Frag} {mg : Str → Option Value} (T : Tx K mg) : Binds K T.fd_left_among ["floor", "a", "b", "four"] [] := T.F_left_among.binds (ps := ["floor", "a", "b", "four"]) fun _ _ _ _ _ _ us hl => match us, hl with | [_, _, _, _], _ => rfl
theorem b_diagonal {K : PySem.W.Frag} {mg : Str → Option Value} (T : Tx K mg) : Binds K T.fd_diagonal ["floor", "four"] [] := T.F_diagonal.binds (ps := ["floor", "four"]) fun _ _ _ _ _ _ us hl => match us, hl with | [_, _], _ => rfl
theorem b_split {K : PySem.W.Frag} {mg : Str → Option Value} (T : Tx K mg) : Binds K T.fd_split ["floor", "a", "b", "c", "d"] [] := T.F_split.binds (ps := ["floor", "a", "b", "c", "d"]) fun _ _ _ _ _ _ us hl => match us, hl with | [_, _, _, _, _], _ => rfl
theorem b__law_told {K : PySem.W.Frag} {mg : Str → Option Value} (T : Tx K mg) : Binds K T.fd__law_told ["name", "floor", "numbers"] [] := T.F__law_told.binds (ps := ["name", "floor", "numbers"]) fun _ _ _ _ _ _ us hl => match us, hl with | [_, _, _], _ => rfl
theorem b__law_diagonals {K : PySem.W.Frag} {mg : Str → Option Value} (T : Tx K mg) : Binds K T.fd__law_diagonals ["points", "four"] [] := T.F__law_diagonals.binds (ps := ["points", "four"]) fun _ _ _ _ _ _ us hl => match us, hl with | [_, _], _ => rfl
theorem b__law_dues {K : PySem.W.Frag} {mg : Str → Option Value} (T : Tx K mg) : Binds K T.fd__law_dues ["points", "numbers"] [] := T.F__law_dues.binds (ps := ["points", "numbers"]) fun _ _ _ _ _ _ us hl => match us, hl with | [_, _], _ => rfl
theorem b__law_four_holds {K : PySem.W.Frag} {mg : Str → Option Value} (T : Tx K mg) : Binds K T.fd__law_four_holds ["floor", "points", "numbers"] [] := T.F__law_four_holds.binds (ps := ["floor", "points", "numbers"]) fun _ _ _ _ _ _ us hl => match us, hl with | [_, _, _], _ => rfl
theorem b__law_digits {K : PySem.W.Frag} {mg : Str → Option Value} (T : Tx K mg) : Binds K T.fd__law_digits ["c", "base", "many"] [] := T.F__law_digits.binds (ps := ["c", "base", "many"]) fun _ _ _ _ _ _ us hl => match us, hl with | [_, _, _], _ => rfl
theorem b__law_cell {K : PySem.W.Frag} {mg : Str → Option Value} (T : Tx K mg) : Binds K T.fd__law_cell ["cells", "place"] [] := T.F__law_cell.binds (ps := ["cells", "place"]) fun _ _ _ _ _ _ us hl => match us, hl with | [_, _], _ => rfl
theorem b__law_order {K : PySem.W.Frag} {mg : Str → Option Value} (T : Tx K mg) : Binds K T.fd__law_order ["c"] [] := T.F__law_order.binds (ps := ["c"]) fun _ _ _ _ _ _ us hl => match us, hl with | [_], _ => rfl
theorem b_check_turns {K : PySem.W.Frag} {mg : Str → Option Value} (T : Tx K mg) : Binds K T.fd_check_turns ["points"] [] := T.F_check_turns.binds (ps := ["points"]) fun _ _ _ _ _ _ us hl => match us, hl with | [_], _ => rfl
theorem b_check_point {K : PySem.W.Frag} {mg : Str → Option Value} (T : Tx K mg) : Binds K T.fd_check_point ["point"] [] := T.F_check_point.binds (ps := ["point"]) fun _ _ _ _ _ _ us hl => match us, hl with | [_], _ => rfl
theorem b_check_count {K : PySem.W.Frag} {mg : Str → Option Value} (T : Tx K mg) : Binds K T.fd_check_count ["members", "least", "most"] [] := T.F_check_count.binds (ps := ["members", "least", "most"]) fun _ _ _ _ _ _ us hl => match us, hl with | [_, _, _], _ => rfl
theorem b_Floor___init__ {K : PySem.W.Frag} {mg : Str → Option Value} (T : Tx K mg) : Binds K T.fd_Floor___init__ ["self", "points"] [] := T.F_Floor___init__.binds (ps := ["self", "points"]) fun _ _ _ _ _ _ us hl => match us, hl with | [_, _], _ => rfl
theorem b__law_made {K : PySem.W.Frag} {mg : Str → Option Value} (T : Tx K mg) : Binds K T.fd__law_made ["points"] [] := T.F__law_made.binds (ps := ["points"]) fun _ _ _ _ _ _ us hl => match us, hl with | [_], _ => rfl
theorem b__law_refusal {K : PySem.W.Frag} {mg : Str → Option Value} (T : Tx K mg) : Binds K T.fd__law_refusal ["points"] [] := T.F__law_refusal.binds (ps := ["points"]) fun _ _ _ _ _ _ us hl => match us, hl with | [_], _ => rfl
theorem b__law_drawn {K : PySem.W.Frag} {mg : Str → Option Value} (T : Tx K mg) : Binds K T.fd__law_drawn ["cells", "many", "wide"] [] := T.F__law_drawn.binds (ps := ["cells", "many", "wide"]) fun _ _ _ _ _ _ us hl => match us, hl with | [_, _, _], _ => rfl
theorem b_law {K : PySem.W.Frag} {mg : Str → Option Value} (T : Tx K mg) : Binds K T.fd_law ["script"] [] := T.F_law.binds (ps := ["script"]) fun _ _ _ _ _ _ us hl => match us, hl with | [_], _ => rfl
theorem mk_tx {K : PySem.W.Frag} {h : Heap} {mg : Str → Option Value} {a_Repeated i_Repeated a_NoPoint i_NoPoint a_TooFar i_TooFar a_OnLine i_OnLine a_WrongCount i_WrongCount a_BowlError a_Floor a_corners_by_lines a_tally a_Floor___len__ a_others a_bare_area a_check_number a_check_numbers a_Floor_left_of a_lines_and_lefts a_line_row a_corner_row a__law_whole a_check_range a_choose a_first_behind a_subset_list a_is_within a_is_around a_inner_pairs a_convex_fours a__law_counts_hold a__law_pairs_hold a__law_fours a__law_area a__law_is_within a__law_inner a__law_pairs a_rest_of a_inner_of a_left_among a_diagonal a_split a__law_told a__law_diagonals a__law_dues a__law_four_holds a__law_digits a__law_cell a__law_order a_check_turns a_check_point a_check_count a_Floor___init__ a__law_made a__law_refusal a__law_drawn a_law : Addr} (X : K.In h) (G : h.Ns mainGlobals mg)
    {nm_Repeated q_Repeated : Str} {N_Repeated : Addr} {bs_Repeated bm_Repeated : List Value} {sn_Repeated : List Str} {sub_Repeated : List Value} {ab_Repeated : Bool} {col_Repeated : Option Bool} {dd_Repeated : Option Addr} {m0_Repeated m1_Repeated m2_Repeated m3_Repeated m5_Repeated : Option Value}
    {od_Repeated an_Repeated : Option Addr} {sl_Repeated : Array (Option Value)} {oc_Repeated kV_Repeated dc_Repeated pm_Repeated cd_Repeated ct_Repeated : Value}
    {nm_NoPoint q_NoPoint : Str} {N_NoPoint : Addr} {bs_NoPoint bm_NoPoint : List Value} {sn_NoPoint : List Str} {sub_NoPoint : List Value} {ab_NoPoint : Bool} {col_NoPoint : Option Bool} {dd_NoPoint : Option Addr} {m0_NoPoint m1_NoPoint m2_NoPoint m3_NoPoint m5_NoPoint : Option Value}
    {od_NoPoint an_NoPoint : Option Addr} {sl_NoPoint : Array (Option Value)} {oc_NoPoint kV_NoPoint dc_NoPoint pm_NoPoint cd_NoPoint ct_NoPoint : Value}
    {nm_TooFar q_TooFar : Str} {N_TooFar : Addr} {bs_TooFar bm_TooFar : List Value} {sn_TooFar : List Str} {sub_TooFar : List Value} {ab_TooFar : Bool} {col_TooFar : Option Bool} {dd_TooFar : Option Addr} {m0_TooFar m1_TooFar m2_TooFar m3_TooFar m5_TooFar : Option Value}
    {od_TooFar an_TooFar : Option Addr} {sl_TooFar : Array (Option Value)} {oc_TooFar kV_TooFar dc_TooFar pm_TooFar cd_TooFar ct_TooFar : Value}
    {nm_OnLine q_OnLine : Str} {N_OnLine : Addr} {bs_OnLine bm_OnLine : List Value} {sn_OnLine : List Str} {sub_OnLine : List Value} {ab_OnLine : Bool} {col_OnLine : Option Bool} {dd_OnLine : Option Addr} {m0_OnLine m1_OnLine m2_OnLine m3_OnLine m5_OnLine : Option Value}
    {od_OnLine an_OnLine : Option Addr} {sl_OnLine : Array (Option Value)} {oc_OnLine kV_OnLine dc_OnLine pm_OnLine cd_OnLine ct_OnLine : Value}
    {nm_WrongCount q_WrongCount : Str} {N_WrongCount : Addr} {bs_WrongCount bm_WrongCount : List Value} {sn_WrongCount : List Str} {sub_WrongCount : List Value} {ab_WrongCount : Bool} {col_WrongCount : Option Bool} {dd_WrongCount : Option Addr} {m0_WrongCount m1_WrongCount m2_WrongCount m3_WrongCount m5_WrongCount : Option Value}
    {od_WrongCount an_WrongCount : Option Addr} {sl_WrongCount : Array (Option Value)} {oc_WrongCount kV_WrongCount dc_WrongCount pm_WrongCount cd_WrongCount ct_WrongCount : Value}
    {mc_Floor : Value}
    {tk_Floor_LEAST : Tok}
    {tk_Floor_MOST : Tok}
    {tk_Floor_FAR : Tok}
    {od_corners_by_lines an_corners_by_lines : Option Addr} {sl_corners_by_lines : Array (Option Value)} {oc_corners_by_lines kV_corners_by_lines dc_corners_by_lines pm_corners_by_lines cd_corners_by_lines ct_corners_by_lines : Value}
    {od_tally an_tally : Option Addr} {sl_tally : Array (Option Value)} {oc_tally kV_tally dc_tally pm_tally cd_tally ct_tally : Value}
    {od_Floor___len__ an_Floor___len__ : Option Addr} {sl_Floor___len__ : Array (Option Value)} {oc_Floor___len__ kV_Floor___len__ dc_Floor___len__ pm_Floor___len__ cd_Floor___len__ ct_Floor___len__ : Value}
    {od_others an_others : Option Addr} {sl_others : Array (Option Value)} {oc_others kV_others dc_others pm_others cd_others ct_others : Value}
    {od_bare_area an_bare_area : Option Addr} {sl_bare_area : Array (Option Value)} {oc_bare_area kV_bare_area dc_bare_area pm_bare_area cd_bare_area ct_bare_area : Value}
    {od_check_number an_check_number : Option Addr} {sl_check_number : Array (Option Value)} {oc_check_number kV_check_number dc_check_number pm_check_number cd_check_number ct_check_number : Value}
    {od_check_numbers an_check_numbers : Option Addr} {sl_check_numbers : Array (Option Value)} {oc_check_numbers kV_check_numbers dc_check_numbers pm_check_numbers cd_check_numbers ct_check_numbers : Value}
    {od_Floor_left_of an_Floor_left_of : Option Addr} {sl_Floor_left_of : Array (Option Value)} {oc_Floor_left_of kV_Floor_left_of dc_Floor_left_of pm_Floor_left_of cd_Floor_left_of ct_Floor_left_of : Value}
    {od_lines_and_lefts an_lines_and_lefts : Option Addr} {sl_lines_and_lefts : Array (Option Value)} {oc_lines_and_lefts kV_lines_and_lefts dc_lines_and_lefts pm_lines_and_lefts cd_lines_and_lefts ct_lines_and_lefts : Value}
    {od_line_row an_line_row : Option Addr} {sl_line_row : Array (Option Value)} {oc_line_row kV_line_row dc_line_row pm_line_row cd_line_row ct_line_row : Value}
    {od_corner_row an_corner_row : Option Addr} {sl_corner_row : Array (Option Value)} {oc_corner_row kV_corner_row dc_corner_row pm_corner_row cd_corner_row ct_corner_row : Value}
    {od__law_whole an__law_whole : Option Addr} {sl__law_whole : Array (Option Value)} {oc__law_whole kV__law_whole dc__law_whole pm__law_whole cd__law_whole ct__law_whole : Value}
    {od_check_range an_check_range : Option Addr} {sl_check_range : Array (Option Value)} {oc_check_range kV_check_range dc_check_range pm_check_range cd_check_range ct_check_range : Value}
    {od_choose an_choose : Option Addr} {sl_choose : Array (Option Value)} {oc_choose kV_choose dc_choose pm_choose cd_choose ct_choose : Value}
    {od_first_behind an_first_behind : Option Addr} {sl_first_behind : Array (Option Value)} {oc_first_behind kV_first_behind dc_first_behind pm_first_behind cd_first_behind ct_first_behind : Value}
    {od_subset_list an_subset_list : Option Addr} {sl_subset_list : Array (Option Value)} {oc_subset_list kV_subset_list dc_subset_list pm_subset_list cd_subset_list ct_subset_list : Value}
    {od_is_within an_is_within : Option Addr} {sl_is_within : Array (Option Value)} {oc_is_within kV_is_within dc_is_within pm_is_within cd_is_within ct_is_within : Value}
    {od_is_around an_is_around : Option Addr} {sl_is_around : Array (Option Value)} {oc_is_around kV_is_around dc_is_around pm_is_around cd_is_around ct_is_around : Value}
    {od_inner_pairs an_inner_pairs : Option Addr} {sl_inner_pairs : Array (Option Value)} {oc_inner_pairs kV_inner_pairs dc_inner_pairs pm_inner_pairs cd_inner_pairs ct_inner_pairs : Value}
    {od_convex_fours an_convex_fours : Option Addr} {sl_convex_fours : Array (Option Value)} {oc_convex_fours kV_convex_fours dc_convex_fours pm_convex_fours cd_convex_fours ct_convex_fours : Value}
    {od__law_counts_hold an__law_counts_hold : Option Addr} {sl__law_counts_hold : Array (Option Value)} {oc__law_counts_hold kV__law_counts_hold dc__law_counts_hold pm__law_counts_hold cd__law_counts_hold ct__law_counts_hold : Value}
    {od__law_pairs_hold an__law_pairs_hold : Option Addr} {sl__law_pairs_hold : Array (Option Value)} {oc__law_pairs_hold kV__law_pairs_hold dc__law_pairs_hold pm__law_pairs_hold cd__law_pairs_hold ct__law_pairs_hold : Value}
    {od__law_fours an__law_fours : Option Addr} {sl__law_fours : Array (Option Value)} {oc__law_fours kV__law_fours dc__law_fours pm__law_fours cd__law_fours ct__law_fours : Value}
    {od__law_area an__law_area : Option Addr} {sl__law_area : Array (Option Value)} {oc__law_area kV__law_area dc__law_area pm__law_area cd__law_area ct__law_area : Value}
    {od__law_is_within an__law_is_within : Option Addr} {sl__law_is_within : Array (Option Value)} {oc__law_is_within kV__law_is_within dc__law_is_within pm__law_is_within cd__law_is_within ct__law_is_within : Value}
    {od__law_inner an__law_inner : Option Addr} {sl__law_inner : Array (Option Value)} {oc__law_inner kV__law_inner dc__law_inner pm__law_inner cd__law_inner ct__law_inner : Value}
    {od__law_pairs an__law_pairs : Option Addr} {sl__law_pairs : Array (Option Value)} {oc__law_pairs kV__law_pairs dc__law_pairs pm__law_pairs cd__law_pairs ct__law_pairs : Value}
    {od_rest_of an_rest_of : Option Addr} {sl_rest_of : Array (Option Value)} {oc_rest_of kV_rest_of dc_rest_of pm_rest_of cd_rest_of ct_rest_of : Value}
    {od_inner_of an_inner_of : Option Addr} {sl_inner_of : Array (Option Value)} {oc_inner_of kV_inner_of dc_inner_of pm_inner_of cd_inner_of ct_inner_of : Value}
    {od_left_among an_left_among : Option Addr} {sl_left_among : Array (Option Value)} {oc_left_among kV_left_among dc_left_among pm_left_among cd_left_among ct_left_among : Value}
    {od_diagonal an_diagonal : Option Addr} {sl_diagonal : Array (Option Value)} {oc_diagonal kV_diagonal dc_diagonal pm_diagonal cd_diagonal ct_diagonal : Value}
    {od_split an_split : Option Addr} {sl_split : Array (Option Value)} {oc_split kV_split dc_split pm_split cd_split ct_split : Value}
    {od__law_told an__law_told : Option Addr} {sl__law_told : Array (Option Value)} {oc__law_told kV__law_told dc__law_told pm__law_told cd__law_told ct__law_told : Value}
    {od__law_diagonals an__law_diagonals : Option Addr} {sl__law_diagonals : Array (Option Value)} {oc__law_diagonals kV__law_diagonals dc__law_diagonals pm__law_diagonals cd__law_diagonals ct__law_diagonals : Value}
    {od__law_dues an__law_dues : Option Addr} {sl__law_dues : Array (Option Value)} {oc__law_dues kV__law_dues dc__law_dues pm__law_dues cd__law_dues ct__law_dues : Value}
    {od__law_four_holds an__law_four_holds : Option Addr} {sl__law_four_holds : Array (Option Value)} {oc__law_four_holds kV__law_four_holds dc__law_four_holds pm__law_four_holds cd__law_four_holds ct__law_four_holds : Value}
    {od__law_digits an__law_digits : Option Addr} {sl__law_digits : Array (Option Value)} {oc__law_digits kV__law_digits dc__law_digits pm__law_digits cd__law_digits ct__law_digits : Value}
    {od__law_cell an__law_cell : Option Addr} {sl__law_cell : Array (Option Value)} {oc__law_cell kV__law_cell dc__law_cell pm__law_cell cd__law_cell ct__law_cell : Value}
    {od__law_order an__law_order : Option Addr} {sl__law_order : Array (Option Value)} {oc__law_order kV__law_order dc__law_order pm__law_order cd__law_order ct__law_order : Value}
    {od_check_turns an_check_turns : Option Addr} {sl_check_turns : Array (Option Value)} {oc_check_turns kV_check_turns dc_check_turns pm_check_turns cd_check_turns ct_check_turns : Value}
    {od_check_point an_check_point : Option Addr} {sl_check_point : Array (Option Value)} {oc_check_point kV_check_point dc_check_point pm_check_point cd_check_point ct_check_point : Value}
    {od_check_count an_check_count : Option Addr} {sl_check_count : Array (Option Value)} {oc_check_count kV_check_count dc_check_count pm_check_count cd_check_count ct_check_count : Value}
    {od_Floor___init__ an_Floor___init__ : Option Addr} {sl_Floor___init__ : Array (Option Value)} {oc_Floor___init__ kV_Floor___init__ dc_Floor___init__ pm_Floor___init__ cd_Floor___init__ ct_Floor___init__ : Value}
    {od__law_made an__law_made : Option Addr} {sl__law_made : Array (Option Value)} {oc__law_made kV__law_made dc__law_made pm__law_made cd__law_made ct__law_made : Value}
    {od__law_refusal an__law_refusal : Option Addr} {sl__law_refusal : Array (Option Value)} {oc__law_refusal kV__law_refusal dc__law_refusal pm__law_refusal cd__law_refusal ct__law_refusal : Value}
    {od__law_drawn an__law_drawn : Option Addr} {sl__law_drawn : Array (Option Value)} {oc__law_drawn kV__law_drawn dc__law_drawn pm__law_drawn cd__law_drawn ct__law_drawn : Value}
    {od_law an_law : Option Addr} {sl_law : Array (Option Value)} {oc_law kV_law dc_law pm_law cd_law ct_law : Value}
    
    (n_Repeated : PySem.W.nsIn K mainGlobals "Repeated" = some (some (.ref a_Repeated)))
    (o_Repeated : K.lookup a_Repeated = some (excClassObj nm_Repeated q_Repeated a_Repeated N_Repeated bs_Repeated bm_Repeated true sn_Repeated sub_Repeated ab_Repeated col_Repeated dd_Repeated m0_Repeated m1_Repeated m2_Repeated m3_Repeated m5_Repeated "ValueError.__new__"))
    (v_Repeated : PySem.HandSPX.refsVE bm_Repeated = true)
    (sa_Repeated : PySem.W.findIn K (.ref a_Repeated) "__setattr__" = some (some (.builtin "object.__setattr__")))
    (sb_Repeated : PySem.W.subIn K (.ref a_Repeated) (.type "BaseException") = some true)
    (ty_Repeated : PySem.W.typeIn K (.ref a_Repeated) = some (.type "type"))
    (kc_Repeated : PySem.W.keepIn K (.ref a_Repeated) = true)
    (ii_Repeated : PySem.W.findIn K (.ref a_Repeated) "__init__" = some (some (.ref i_Repeated)))
    (ti_Repeated : PySem.W.typeIn K (.ref i_Repeated) = some (.type "function"))
    (nf_Repeated : PySem.W.findIn K (.ref a_Repeated) "number" = some none)
    (ga_Repeated : PySem.W.findIn K (.ref a_Repeated) "__getattribute__" = some (some (.builtin "BaseException.__getattribute__")))
    (gt_Repeated : PySem.W.findIn K (.ref a_Repeated) "__getattr__" = some none)
    (hd_Repeated : PySem.W.hasDictIn K a_Repeated = true)
    (is_Repeated : PySem.W.isClsIn K a_Repeated = true)
    (ca_Repeated : PySem.W.findIn K (.ref a_Repeated) "__class__" = some (some (.builtin "object.__class__")))
    (mo_Repeated : PySem.W.mroIn K a_Repeated (.type "object") = some true)
    (l_Repeated : K.lookup i_Repeated = some ⟨oc_Repeated, od_Repeated, .func (PySem.W.fnOf "__init__" "Repeated.__init__" (defArgs s_Repeated) (defBody s_Repeated) (defScope s_Repeated) .none kV_Repeated dc_Repeated pm_Repeated an_Repeated cd_Repeated ct_Repeated), sl_Repeated⟩)
    (c_Repeated : PySem.W.codeIn K cd_Repeated "Repeated.__init__" = true)
    (kp_Repeated : PySem.W.keepIn K (.ref i_Repeated) = true)
    (n_NoPoint : PySem.W.nsIn K mainGlobals "NoPoint" = some (some (.ref a_NoPoint)))
    (o_NoPoint : K.lookup a_NoPoint = some (excClassObj nm_NoPoint q_NoPoint a_NoPoint N_NoPoint bs_NoPoint bm_NoPoint true sn_NoPoint sub_NoPoint ab_NoPoint col_NoPoint dd_NoPoint m0_NoPoint m1_NoPoint m2_NoPoint m3_NoPoint m5_NoPoint "ValueError.__new__"))
    (v_NoPoint : PySem.HandSPX.refsVE bm_NoPoint = true)
    (sa_NoPoint : PySem.W.findIn K (.ref a_NoPoint) "__setattr__" = some (some (.builtin "object.__setattr__")))
    (sb_NoPoint : PySem.W.subIn K (.ref a_NoPoint) (.type "BaseException") = some true)
    (ty_NoPoint : PySem.W.typeIn K (.ref a_NoPoint) = some (.type "type"))
    (kc_NoPoint : PySem.W.keepIn K (.ref a_NoPoint) = true)
    (ii_NoPoint : PySem.W.findIn K (.ref a_NoPoint) "__init__" = some (some (.ref i_NoPoint)))
    (ti_NoPoint : PySem.W.typeIn K (.ref i_NoPoint) = some (.type "function"))
    (nf_NoPoint : PySem.W.findIn K (.ref a_NoPoint) "number" = some none)
    (ga_NoPoint : PySem.W.findIn K (.ref a_NoPoint) "__getattribute__" = some (some (.builtin "BaseException.__getattribute__")))
    (gt_NoPoint : PySem.W.findIn K (.ref a_NoPoint) "__getattr__" = some none)
    (hd_NoPoint : PySem.W.hasDictIn K a_NoPoint = true)
    (is_NoPoint : PySem.W.isClsIn K a_NoPoint = true)
    (ca_NoPoint : PySem.W.findIn K (.ref a_NoPoint) "__class__" = some (some (.builtin "object.__class__")))
    (mo_NoPoint : PySem.W.mroIn K a_NoPoint (.type "object") = some true)
    (l_NoPoint : K.lookup i_NoPoint = some ⟨oc_NoPoint, od_NoPoint, .func (PySem.W.fnOf "__init__" "NoPoint.__init__" (defArgs s_NoPoint) (defBody s_NoPoint) (defScope s_NoPoint) .none kV_NoPoint dc_NoPoint pm_NoPoint an_NoPoint cd_NoPoint ct_NoPoint), sl_NoPoint⟩)
    (c_NoPoint : PySem.W.codeIn K cd_NoPoint "NoPoint.__init__" = true)
    (kp_NoPoint : PySem.W.keepIn K (.ref i_NoPoint) = true)
    (n_TooFar : PySem.W.nsIn K mainGlobals "TooFar" = some (some (.ref a_TooFar)))
    (o_TooFar : K.lookup a_TooFar = some (excClassObj nm_TooFar q_TooFar a_TooFar N_TooFar bs_TooFar bm_TooFar true sn_TooFar sub_TooFar ab_TooFar col_TooFar dd_TooFar m0_TooFar m1_TooFar m2_TooFar m3_TooFar m5_TooFar "ValueError.__new__"))
    (v_TooFar : PySem.HandSPX.refsVE bm_TooFar = true)
    (sa_TooFar : PySem.W.findIn K (.ref a_TooFar) "__setattr__" = some (some (.builtin "object.__setattr__")))
    (sb_TooFar : PySem.W.subIn K (.ref a_TooFar) (.type "BaseException") = some true)
    (ty_TooFar : PySem.W.typeIn K (.ref a_TooFar) = some (.type "type"))
    (kc_TooFar : PySem.W.keepIn K (.ref a_TooFar) = true)
    (ii_TooFar : PySem.W.findIn K (.ref a_TooFar) "__init__" = some (some (.ref i_TooFar)))
    (ti_TooFar : PySem.W.typeIn K (.ref i_TooFar) = some (.type "function"))
    (nf_TooFar : PySem.W.findIn K (.ref a_TooFar) "value" = some none)
    (ga_TooFar : PySem.W.findIn K (.ref a_TooFar) "__getattribute__" = some (some (.builtin "BaseException.__getattribute__")))
    (gt_TooFar : PySem.W.findIn K (.ref a_TooFar) "__getattr__" = some none)
    (hd_TooFar : PySem.W.hasDictIn K a_TooFar = true)
    (is_TooFar : PySem.W.isClsIn K a_TooFar = true)
    (ca_TooFar : PySem.W.findIn K (.ref a_TooFar) "__class__" = some (some (.builtin "object.__class__")))
    (mo_TooFar : PySem.W.mroIn K a_TooFar (.type "object") = some true)
    (l_TooFar : K.lookup i_TooFar = some ⟨oc_TooFar, od_TooFar, .func (PySem.W.fnOf "__init__" "TooFar.__init__" (defArgs s_TooFar) (defBody s_TooFar) (defScope s_TooFar) .none kV_TooFar dc_TooFar pm_TooFar an_TooFar cd_TooFar ct_TooFar), sl_TooFar⟩)
    (c_TooFar : PySem.W.codeIn K cd_TooFar "TooFar.__init__" = true)
    (kp_TooFar : PySem.W.keepIn K (.ref i_TooFar) = true)
    (n_OnLine : PySem.W.nsIn K mainGlobals "OnLine" = some (some (.ref a_OnLine)))
    (o_OnLine : K.lookup a_OnLine = some (excClassObj nm_OnLine q_OnLine a_OnLine N_OnLine bs_OnLine bm_OnLine true sn_OnLine sub_OnLine ab_OnLine col_OnLine dd_OnLine m0_OnLine m1_OnLine m2_OnLine m3_OnLine m5_OnLine "ValueError.__new__"))
    (v_OnLine : PySem.HandSPX.refsVE bm_OnLine = true)
    (sa_OnLine : PySem.W.findIn K (.ref a_OnLine) "__setattr__" = some (some (.builtin "object.__setattr__")))
    (sb_OnLine : PySem.W.subIn K (.ref a_OnLine) (.type "BaseException") = some true)
    (ty_OnLine : PySem.W.typeIn K (.ref a_OnLine) = some (.type "type"))
    (kc_OnLine : PySem.W.keepIn K (.ref a_OnLine) = true)
    (ii_OnLine : PySem.W.findIn K (.ref a_OnLine) "__init__" = some (some (.ref i_OnLine)))
    (ti_OnLine : PySem.W.typeIn K (.ref i_OnLine) = some (.type "function"))
    (nf_OnLine : PySem.W.findIn K (.ref a_OnLine) "numbers" = some none)
    (ga_OnLine : PySem.W.findIn K (.ref a_OnLine) "__getattribute__" = some (some (.builtin "BaseException.__getattribute__")))
    (gt_OnLine : PySem.W.findIn K (.ref a_OnLine) "__getattr__" = some none)
    (hd_OnLine : PySem.W.hasDictIn K a_OnLine = true)
    (is_OnLine : PySem.W.isClsIn K a_OnLine = true)
    (ca_OnLine : PySem.W.findIn K (.ref a_OnLine) "__class__" = some (some (.builtin "object.__class__")))
    (mo_OnLine : PySem.W.mroIn K a_OnLine (.type "object") = some true)
    (l_OnLine : K.lookup i_OnLine = some ⟨oc_OnLine, od_OnLine, .func (PySem.W.fnOf "__init__" "OnLine.__init__" (defArgs s_OnLine) (defBody s_OnLine) (defScope s_OnLine) .none kV_OnLine dc_OnLine pm_OnLine an_OnLine cd_OnLine ct_OnLine), sl_OnLine⟩)
    (c_OnLine : PySem.W.codeIn K cd_OnLine "OnLine.__init__" = true)
    (kp_OnLine : PySem.W.keepIn K (.ref i_OnLine) = true)
    (n_WrongCount : PySem.W.nsIn K mainGlobals "WrongCount" = some (some (.ref a_WrongCount)))
    (o_WrongCount : K.lookup a_WrongCount = some (excClassObj nm_WrongCount q_WrongCount a_WrongCount N_WrongCount bs_WrongCount bm_WrongCount true sn_WrongCount sub_WrongCount ab_WrongCount col_WrongCount dd_WrongCount m0_WrongCount m1_WrongCount m2_WrongCount m3_WrongCount m5_WrongCount "ValueError.__new__"))
    (v_WrongCount : PySem.HandSPX.refsVE bm_WrongCount = true)
    (sa_WrongCount : PySem.W.findIn K (.ref a_WrongCount) "__setattr__" = some (some (.builtin "object.__setattr__")))
    (sb_WrongCount : PySem.W.subIn K (.ref a_WrongCount) (.type "BaseException") = some true)
    (ty_WrongCount : PySem.W.typeIn K (.ref a_WrongCount) = some (.type "type"))
    (kc_WrongCount : PySem.W.keepIn K (.ref a_WrongCount) = true)
    (ii_WrongCount : PySem.W.findIn K (.ref a_WrongCount) "__init__" = some (some (.ref i_WrongCount)))
    (ti_WrongCount : PySem.W.typeIn K (.ref i_WrongCount) = some (.type "function"))
    (nf_WrongCount : PySem.W.findIn K (.ref a_WrongCount) "count" = some none)
    (ga_WrongCount : PySem.W.findIn K (.ref a_WrongCount) "__getattribute__" = some (some (.builtin "BaseException.__getattribute__")))
    (gt_WrongCount : PySem.W.findIn K (.ref a_WrongCount) "__getattr__" = some none)
    (hd_WrongCount : PySem.W.hasDictIn K a_WrongCount = true)
    (is_WrongCount : PySem.W.isClsIn K a_WrongCount = true)
    (ca_WrongCount : PySem.W.findIn K (.ref a_WrongCount) "__class__" = some (some (.builtin "object.__class__")))
    (mo_WrongCount : PySem.W.mroIn K a_WrongCount (.type "object") = some true)
    (l_WrongCount : K.lookup i_WrongCount = some ⟨oc_WrongCount, od_WrongCount, .func (PySem.W.fnOf "__init__" "WrongCount.__init__" (defArgs s_WrongCount) (defBody s_WrongCount) (defScope s_WrongCount) .none kV_WrongCount dc_WrongCount pm_WrongCount an_WrongCount cd_WrongCount ct_WrongCount), sl_WrongCount⟩)
    (c_WrongCount : PySem.W.codeIn K cd_WrongCount "WrongCount.__init__" = true)
    (kp_WrongCount : PySem.W.keepIn K (.ref i_WrongCount) = true)
    (n_BowlError : PySem.W.nsIn K mainGlobals "BowlError" = some (some (.ref a_BowlError)))
    (is_BowlError : PySem.W.isClsIn K a_BowlError = true)
    (ty_BowlError : PySem.W.typeIn K (.ref a_BowlError) = some (.type "type"))
    (gn : PySem.W.specialIn K (.builtin "object.__class__") "__get__" = some (some (.builtin "getset_descriptor.__get__")))
    (tkc : PySem.W.takesIn K (.builtin "object.__class__") = some true)
    (n_Floor : PySem.W.nsIn K mainGlobals "Floor" = some (some (.ref a_Floor)))
    (pg_Floor : PySem.W.plainGet K a_Floor Str.empty = true)
    (hd_Floor : PySem.W.hasDictIn K a_Floor = true)
    (po_Floor : PySem.W.plainOver K a_Floor = true)
    (sa_Floor : PySem.W.findIn K (.ref a_Floor) "__setattr__" = some (some (.builtin "object.__setattr__")))
    (tc_Floor : PySem.W.typeIn K (.ref a_Floor) = some mc_Floor)
    (rd_Floor : PySem.W.readsIn K a_Floor mc_Floor = true)
    (gc_Floor : PySem.W.specialIn K (.ref a_Floor) "__getattribute__" = some (some (.builtin "type.__getattribute__")))
    (na_Floor_points : PySem.W.findIn K (.ref a_Floor) "points" = some none)
    (cv_Floor_LEAST : PySem.W.findCls K (.ref a_Floor) mc_Floor "LEAST" = some (.val (.int 3 tk_Floor_LEAST)))
    (cv_Floor_MOST : PySem.W.findCls K (.ref a_Floor) mc_Floor "MOST" = some (.val (.int 10 tk_Floor_MOST)))
    (cv_Floor_FAR : PySem.W.findCls K (.ref a_Floor) mc_Floor "FAR" = some (.val (.int 1000000 tk_Floor_FAR)))
    (ca_Floor : PySem.W.findIn K (.ref a_Floor) "__class__" = some (some (.builtin "object.__class__")))
    (mo_Floor : PySem.W.mroIn K a_Floor (.type "object") = some true)
    (n_corners_by_lines : PySem.W.nsIn K mainGlobals "corners_by_lines" = some (some (.ref a_corners_by_lines)))
    (l_corners_by_lines : K.lookup a_corners_by_lines = some ⟨oc_corners_by_lines, od_corners_by_lines, .func (PySem.W.fnOf "corners_by_lines" "corners_by_lines" (defArgs s_corners_by_lines) (defBody s_corners_by_lines) (defScope s_corners_by_lines) .none kV_corners_by_lines dc_corners_by_lines pm_corners_by_lines an_corners_by_lines cd_corners_by_lines ct_corners_by_lines), sl_corners_by_lines⟩)
    (c_corners_by_lines : PySem.W.codeIn K cd_corners_by_lines "corners_by_lines" = true)
    (kp_corners_by_lines : PySem.W.keepIn K (.ref a_corners_by_lines) = true)
    (n_tally : PySem.W.nsIn K mainGlobals "tally" = some (some (.ref a_tally)))
    (l_tally : K.lookup a_tally = some ⟨oc_tally, od_tally, .func (PySem.W.fnOf "tally" "tally" (defArgs s_tally) (defBody s_tally) (defScope s_tally) .none kV_tally dc_tally pm_tally an_tally cd_tally ct_tally), sl_tally⟩)
    (c_tally : PySem.W.codeIn K cd_tally "tally" = true)
    (kp_tally : PySem.W.keepIn K (.ref a_tally) = true)
    (f_Floor___len__ : PySem.W.findIn K (.ref a_Floor) "__len__" = some (some (.ref a_Floor___len__)))
    (fi_Floor___len__ : PySem.W.isFn K (.ref a_Floor___len__) = true)
    (l_Floor___len__ : K.lookup a_Floor___len__ = some ⟨oc_Floor___len__, od_Floor___len__, .func (PySem.W.fnOf "__len__" "Floor.__len__" (defArgs s_Floor___len__) (defBody s_Floor___len__) (defScope s_Floor___len__) .none kV_Floor___len__ dc_Floor___len__ pm_Floor___len__ an_Floor___len__ cd_Floor___len__ ct_Floor___len__), sl_Floor___len__⟩)
    (c_Floor___len__ : PySem.W.codeIn K cd_Floor___len__ "Floor.__len__" = true)
    (kp_Floor___len__ : PySem.W.keepIn K (.ref a_Floor___len__) = true)
    (n_others : PySem.W.nsIn K mainGlobals "others" = some (some (.ref a_others)))
    (l_others : K.lookup a_others = some ⟨oc_others, od_others, .func (PySem.W.fnOf "others" "others" (defArgs s_others) (defBody s_others) (defScope s_others) .none kV_others dc_others pm_others an_others cd_others ct_others), sl_others⟩)
    (c_others : PySem.W.codeIn K cd_others "others" = true)
    (kp_others : PySem.W.keepIn K (.ref a_others) = true)
    (n_bare_area : PySem.W.nsIn K mainGlobals "bare_area" = some (some (.ref a_bare_area)))
    (l_bare_area : K.lookup a_bare_area = some ⟨oc_bare_area, od_bare_area, .func (PySem.W.fnOf "bare_area" "bare_area" (defArgs s_bare_area) (defBody s_bare_area) (defScope s_bare_area) .none kV_bare_area dc_bare_area pm_bare_area an_bare_area cd_bare_area ct_bare_area), sl_bare_area⟩)
    (c_bare_area : PySem.W.codeIn K cd_bare_area "bare_area" = true)
    (kp_bare_area : PySem.W.keepIn K (.ref a_bare_area) = true)
    (n_check_number : PySem.W.nsIn K mainGlobals "check_number" = some (some (.ref a_check_number)))
    (l_check_number : K.lookup a_check_number = some ⟨oc_check_number, od_check_number, .func (PySem.W.fnOf "check_number" "check_number" (defArgs s_check_number) (defBody s_check_number) (defScope s_check_number) .none kV_check_number dc_check_number pm_check_number an_check_number cd_check_number ct_check_number), sl_check_number⟩)
    (c_check_number : PySem.W.codeIn K cd_check_number "check_number" = true)
    (kp_check_number : PySem.W.keepIn K (.ref a_check_number) = true)
    (n_check_numbers : PySem.W.nsIn K mainGlobals "check_numbers" = some (some (.ref a_check_numbers)))
    (l_check_numbers : K.lookup a_check_numbers = some ⟨oc_check_numbers, od_check_numbers, .func (PySem.W.fnOf "check_numbers" "check_numbers" (defArgs s_check_numbers) (defBody s_check_numbers) (defScope s_check_numbers) .none kV_check_numbers dc_check_numbers pm_check_numbers an_check_numbers cd_check_numbers ct_check_numbers), sl_check_numbers⟩)
    (c_check_numbers : PySem.W.codeIn K cd_check_numbers "check_numbers" = true)
    (kp_check_numbers : PySem.W.keepIn K (.ref a_check_numbers) = true)
    (f_Floor_left_of : PySem.W.findIn K (.ref a_Floor) "left_of" = some (some (.ref a_Floor_left_of)))
    (fi_Floor_left_of : PySem.W.isFn K (.ref a_Floor_left_of) = true)
    (l_Floor_left_of : K.lookup a_Floor_left_of = some ⟨oc_Floor_left_of, od_Floor_left_of, .func (PySem.W.fnOf "left_of" "Floor.left_of" (defArgs s_Floor_left_of) (defBody s_Floor_left_of) (defScope s_Floor_left_of) .none kV_Floor_left_of dc_Floor_left_of pm_Floor_left_of an_Floor_left_of cd_Floor_left_of ct_Floor_left_of), sl_Floor_left_of⟩)
    (c_Floor_left_of : PySem.W.codeIn K cd_Floor_left_of "Floor.left_of" = true)
    (kp_Floor_left_of : PySem.W.keepIn K (.ref a_Floor_left_of) = true)
    (n_lines_and_lefts : PySem.W.nsIn K mainGlobals "lines_and_lefts" = some (some (.ref a_lines_and_lefts)))
    (l_lines_and_lefts : K.lookup a_lines_and_lefts = some ⟨oc_lines_and_lefts, od_lines_and_lefts, .func (PySem.W.fnOf "lines_and_lefts" "lines_and_lefts" (defArgs s_lines_and_lefts) (defBody s_lines_and_lefts) (defScope s_lines_and_lefts) .none kV_lines_and_lefts dc_lines_and_lefts pm_lines_and_lefts an_lines_and_lefts cd_lines_and_lefts ct_lines_and_lefts), sl_lines_and_lefts⟩)
    (c_lines_and_lefts : PySem.W.codeIn K cd_lines_and_lefts "lines_and_lefts" = true)
    (kp_lines_and_lefts : PySem.W.keepIn K (.ref a_lines_and_lefts) = true)
    (n_line_row : PySem.W.nsIn K mainGlobals "line_row" = some (some (.ref a_line_row)))
    (l_line_row : K.lookup a_line_row = some ⟨oc_line_row, od_line_row, .func (PySem.W.fnOf "line_row" "line_row" (defArgs s_line_row) (defBody s_line_row) (defScope s_line_row) .none kV_line_row dc_line_row pm_line_row an_line_row cd_line_row ct_line_row), sl_line_row⟩)
    (c_line_row : PySem.W.codeIn K cd_line_row "line_row" = true)
    (kp_line_row : PySem.W.keepIn K (.ref a_line_row) = true)
    (n_corner_row : PySem.W.nsIn K mainGlobals "corner_row" = some (some (.ref a_corner_row)))
    (l_corner_row : K.lookup a_corner_row = some ⟨oc_corner_row, od_corner_row, .func (PySem.W.fnOf "corner_row" "corner_row" (defArgs s_corner_row) (defBody s_corner_row) (defScope s_corner_row) .none kV_corner_row dc_corner_row pm_corner_row an_corner_row cd_corner_row ct_corner_row), sl_corner_row⟩)
    (c_corner_row : PySem.W.codeIn K cd_corner_row "corner_row" = true)
    (kp_corner_row : PySem.W.keepIn K (.ref a_corner_row) = true)
    (n__law_whole : PySem.W.nsIn K mainGlobals "_law_whole" = some (some (.ref a__law_whole)))
    (l__law_whole : K.lookup a__law_whole = some ⟨oc__law_whole, od__law_whole, .func (PySem.W.fnOf "_law_whole" "_law_whole" (defArgs s__law_whole) (defBody s__law_whole) (defScope s__law_whole) .none kV__law_whole dc__law_whole pm__law_whole an__law_whole cd__law_whole ct__law_whole), sl__law_whole⟩)
    (c__law_whole : PySem.W.codeIn K cd__law_whole "_law_whole" = true)
    (kp__law_whole : PySem.W.keepIn K (.ref a__law_whole) = true)
    (n_check_range : PySem.W.nsIn K mainGlobals "check_range" = some (some (.ref a_check_range)))
    (l_check_range : K.lookup a_check_range = some ⟨oc_check_range, od_check_range, .func (PySem.W.fnOf "check_range" "check_range" (defArgs s_check_range) (defBody s_check_range) (defScope s_check_range) .none kV_check_range dc_check_range pm_check_range an_check_range cd_check_range ct_check_range), sl_check_range⟩)
    (c_check_range : PySem.W.codeIn K cd_check_range "check_range" = true)
    (kp_check_range : PySem.W.keepIn K (.ref a_check_range) = true)
    (n_choose : PySem.W.nsIn K mainGlobals "choose" = some (some (.ref a_choose)))
    (l_choose : K.lookup a_choose = some ⟨oc_choose, od_choose, .func (PySem.W.fnOf "choose" "choose" (defArgs s_choose) (defBody s_choose) (defScope s_choose) .none kV_choose dc_choose pm_choose an_choose cd_choose ct_choose), sl_choose⟩)
    (c_choose : PySem.W.codeIn K cd_choose "choose" = true)
    (kp_choose : PySem.W.keepIn K (.ref a_choose) = true)
    (n_first_behind : PySem.W.nsIn K mainGlobals "first_behind" = some (some (.ref a_first_behind)))
    (l_first_behind : K.lookup a_first_behind = some ⟨oc_first_behind, od_first_behind, .func (PySem.W.fnOf "first_behind" "first_behind" (defArgs s_first_behind) (defBody s_first_behind) (defScope s_first_behind) .none kV_first_behind dc_first_behind pm_first_behind an_first_behind cd_first_behind ct_first_behind), sl_first_behind⟩)
    (c_first_behind : PySem.W.codeIn K cd_first_behind "first_behind" = true)
    (kp_first_behind : PySem.W.keepIn K (.ref a_first_behind) = true)
    (n_subset_list : PySem.W.nsIn K mainGlobals "subset_list" = some (some (.ref a_subset_list)))
    (l_subset_list : K.lookup a_subset_list = some ⟨oc_subset_list, od_subset_list, .func (PySem.W.fnOf "subset_list" "subset_list" (defArgs s_subset_list) (defBody s_subset_list) (defScope s_subset_list) .none kV_subset_list dc_subset_list pm_subset_list an_subset_list cd_subset_list ct_subset_list), sl_subset_list⟩)
    (c_subset_list : PySem.W.codeIn K cd_subset_list "subset_list" = true)
    (kp_subset_list : PySem.W.keepIn K (.ref a_subset_list) = true)
    (n_is_within : PySem.W.nsIn K mainGlobals "is_within" = some (some (.ref a_is_within)))
    (l_is_within : K.lookup a_is_within = some ⟨oc_is_within, od_is_within, .func (PySem.W.fnOf "is_within" "is_within" (defArgs s_is_within) (defBody s_is_within) (defScope s_is_within) .none kV_is_within dc_is_within pm_is_within an_is_within cd_is_within ct_is_within), sl_is_within⟩)
    (c_is_within : PySem.W.codeIn K cd_is_within "is_within" = true)
    (kp_is_within : PySem.W.keepIn K (.ref a_is_within) = true)
    (n_is_around : PySem.W.nsIn K mainGlobals "is_around" = some (some (.ref a_is_around)))
    (l_is_around : K.lookup a_is_around = some ⟨oc_is_around, od_is_around, .func (PySem.W.fnOf "is_around" "is_around" (defArgs s_is_around) (defBody s_is_around) (defScope s_is_around) .none kV_is_around dc_is_around pm_is_around an_is_around cd_is_around ct_is_around), sl_is_around⟩)
    (c_is_around : PySem.W.codeIn K cd_is_around "is_around" = true)
    (kp_is_around : PySem.W.keepIn K (.ref a_is_around) = true)
    (n_inner_pairs : PySem.W.nsIn K mainGlobals "inner_pairs" = some (some (.ref a_inner_pairs)))
    (l_inner_pairs : K.lookup a_inner_pairs = some ⟨oc_inner_pairs, od_inner_pairs, .func (PySem.W.fnOf "inner_pairs" "inner_pairs" (defArgs s_inner_pairs) (defBody s_inner_pairs) (defScope s_inner_pairs) .none kV_inner_pairs dc_inner_pairs pm_inner_pairs an_inner_pairs cd_inner_pairs ct_inner_pairs), sl_inner_pairs⟩)
    (c_inner_pairs : PySem.W.codeIn K cd_inner_pairs "inner_pairs" = true)
    (kp_inner_pairs : PySem.W.keepIn K (.ref a_inner_pairs) = true)
    (n_convex_fours : PySem.W.nsIn K mainGlobals "convex_fours" = some (some (.ref a_convex_fours)))
    (l_convex_fours : K.lookup a_convex_fours = some ⟨oc_convex_fours, od_convex_fours, .func (PySem.W.fnOf "convex_fours" "convex_fours" (defArgs s_convex_fours) (defBody s_convex_fours) (defScope s_convex_fours) .none kV_convex_fours dc_convex_fours pm_convex_fours an_convex_fours cd_convex_fours ct_convex_fours), sl_convex_fours⟩)
    (c_convex_fours : PySem.W.codeIn K cd_convex_fours "convex_fours" = true)
    (kp_convex_fours : PySem.W.keepIn K (.ref a_convex_fours) = true)
    (n__law_counts_hold : PySem.W.nsIn K mainGlobals "_law_counts_hold" = some (some (.ref a__law_counts_hold)))
    (l__law_counts_hold : K.lookup a__law_counts_hold = some ⟨oc__law_counts_hold, od__law_counts_hold, .func (PySem.W.fnOf "_law_counts_hold" "_law_counts_hold" (defArgs s__law_counts_hold) (defBody s__law_counts_hold) (defScope s__law_counts_hold) .none kV__law_counts_hold dc__law_counts_hold pm__law_counts_hold an__law_counts_hold cd__law_counts_hold ct__law_counts_hold), sl__law_counts_hold⟩)
    (c__law_counts_hold : PySem.W.codeIn K cd__law_counts_hold "_law_counts_hold" = true)
    (kp__law_counts_hold : PySem.W.keepIn K (.ref a__law_counts_hold) = true)
    (n__law_pairs_hold : PySem.W.nsIn K mainGlobals "_law_pairs_hold" = some (some (.ref a__law_pairs_hold)))
    (l__law_pairs_hold : K.lookup a__law_pairs_hold = some ⟨oc__law_pairs_hold, od__law_pairs_hold, .func (PySem.W.fnOf "_law_pairs_hold" "_law_pairs_hold" (defArgs s__law_pairs_hold) (defBody s__law_pairs_hold) (defScope s__law_pairs_hold) .none kV__law_pairs_hold dc__law_pairs_hold pm__law_pairs_hold an__law_pairs_hold cd__law_pairs_hold ct__law_pairs_hold), sl__law_pairs_hold⟩)
    (c__law_pairs_hold : PySem.W.codeIn K cd__law_pairs_hold "_law_pairs_hold" = true)
    (kp__law_pairs_hold : PySem.W.keepIn K (.ref a__law_pairs_hold) = true)
    (n__law_fours : PySem.W.nsIn K mainGlobals "_law_fours" = some (some (.ref a__law_fours)))
    (l__law_fours : K.lookup a__law_fours = some ⟨oc__law_fours, od__law_fours, .func (PySem.W.fnOf "_law_fours" "_law_fours" (defArgs s__law_fours) (defBody s__law_fours) (defScope s__law_fours) .none kV__law_fours dc__law_fours pm__law_fours an__law_fours cd__law_fours ct__law_fours), sl__law_fours⟩)
    (c__law_fours : PySem.W.codeIn K cd__law_fours "_law_fours" = true)
    (kp__law_fours : PySem.W.keepIn K (.ref a__law_fours) = true)
    (n__law_area : PySem.W.nsIn K mainGlobals "_law_area" = some (some (.ref a__law_area)))
    (l__law_area : K.lookup a__law_area = some ⟨oc__law_area, od__law_area, .func (PySem.W.fnOf "_law_area" "_law_area" (defArgs s__law_area) (defBody s__law_area) (defScope s__law_area) .none kV__law_area dc__law_area pm__law_area an__law_area cd__law_area ct__law_area), sl__law_area⟩)
    (c__law_area : PySem.W.codeIn K cd__law_area "_law_area" = true)
    (kp__law_area : PySem.W.keepIn K (.ref a__law_area) = true)
    (n__law_is_within : PySem.W.nsIn K mainGlobals "_law_is_within" = some (some (.ref a__law_is_within)))
    (l__law_is_within : K.lookup a__law_is_within = some ⟨oc__law_is_within, od__law_is_within, .func (PySem.W.fnOf "_law_is_within" "_law_is_within" (defArgs s__law_is_within) (defBody s__law_is_within) (defScope s__law_is_within) .none kV__law_is_within dc__law_is_within pm__law_is_within an__law_is_within cd__law_is_within ct__law_is_within), sl__law_is_within⟩)
    (c__law_is_within : PySem.W.codeIn K cd__law_is_within "_law_is_within" = true)
    (kp__law_is_within : PySem.W.keepIn K (.ref a__law_is_within) = true)
    (n__law_inner : PySem.W.nsIn K mainGlobals "_law_inner" = some (some (.ref a__law_inner)))
    (l__law_inner : K.lookup a__law_inner = some ⟨oc__law_inner, od__law_inner, .func (PySem.W.fnOf "_law_inner" "_law_inner" (defArgs s__law_inner) (defBody s__law_inner) (defScope s__law_inner) .none kV__law_inner dc__law_inner pm__law_inner an__law_inner cd__law_inner ct__law_inner), sl__law_inner⟩)
    (c__law_inner : PySem.W.codeIn K cd__law_inner "_law_inner" = true)
    (kp__law_inner : PySem.W.keepIn K (.ref a__law_inner) = true)
    (n__law_pairs : PySem.W.nsIn K mainGlobals "_law_pairs" = some (some (.ref a__law_pairs)))
    (l__law_pairs : K.lookup a__law_pairs = some ⟨oc__law_pairs, od__law_pairs, .func (PySem.W.fnOf "_law_pairs" "_law_pairs" (defArgs s__law_pairs) (defBody s__law_pairs) (defScope s__law_pairs) .none kV__law_pairs dc__law_pairs pm__law_pairs an__law_pairs cd__law_pairs ct__law_pairs), sl__law_pairs⟩)
    (c__law_pairs : PySem.W.codeIn K cd__law_pairs "_law_pairs" = true)
    (kp__law_pairs : PySem.W.keepIn K (.ref a__law_pairs) = true)
    (n_rest_of : PySem.W.nsIn K mainGlobals "rest_of" = some (some (.ref a_rest_of)))
    (l_rest_of : K.lookup a_rest_of = some ⟨oc_rest_of, od_rest_of, .func (PySem.W.fnOf "rest_of" "rest_of" (defArgs s_rest_of) (defBody s_rest_of) (defScope s_rest_of) .none kV_rest_of dc_rest_of pm_rest_of an_rest_of cd_rest_of ct_rest_of), sl_rest_of⟩)
    (c_rest_of : PySem.W.codeIn K cd_rest_of "rest_of" = true)
    (kp_rest_of : PySem.W.keepIn K (.ref a_rest_of) = true)
    (n_inner_of : PySem.W.nsIn K mainGlobals "inner_of" = some (some (.ref a_inner_of)))
    (l_inner_of : K.lookup a_inner_of = some ⟨oc_inner_of, od_inner_of, .func (PySem.W.fnOf "inner_of" "inner_of" (defArgs s_inner_of) (defBody s_inner_of) (defScope s_inner_of) .none kV_inner_of dc_inner_of pm_inner_of an_inner_of cd_inner_of ct_inner_of), sl_inner_of⟩)
    (c_inner_of : PySem.W.codeIn K cd_inner_of "inner_of" = true)
    (kp_inner_of : PySem.W.keepIn K (.ref a_inner_of) = true)
    (n_left_among : PySem.W.nsIn K mainGlobals "left_among" = some (some (.ref a_left_among)))
    (l_left_among : K.lookup a_left_among = some ⟨oc_left_among, od_left_among, .func (PySem.W.fnOf "left_among" "left_among" (defArgs s_left_among) (defBody s_left_among) (defScope s_left_among) .none kV_left_among dc_left_among pm_left_among an_left_among cd_left_among ct_left_among), sl_left_among⟩)
    (c_left_among : PySem.W.codeIn K cd_left_among "left_among" = true)
    (kp_left_among : PySem.W.keepIn K (.ref a_left_among) = true)
    (n_diagonal : PySem.W.nsIn K mainGlobals "diagonal" = some (some (.ref a_diagonal)))
    (l_diagonal : K.lookup a_diagonal = some ⟨oc_diagonal, od_diagonal, .func (PySem.W.fnOf "diagonal" "diagonal" (defArgs s_diagonal) (defBody s_diagonal) (defScope s_diagonal) .none kV_diagonal dc_diagonal pm_diagonal an_diagonal cd_diagonal ct_diagonal), sl_diagonal⟩)
    (c_diagonal : PySem.W.codeIn K cd_diagonal "diagonal" = true)
    (kp_diagonal : PySem.W.keepIn K (.ref a_diagonal) = true)
    (n_split : PySem.W.nsIn K mainGlobals "split" = some (some (.ref a_split)))
    (l_split : K.lookup a_split = some ⟨oc_split, od_split, .func (PySem.W.fnOf "split" "split" (defArgs s_split) (defBody s_split) (defScope s_split) .none kV_split dc_split pm_split an_split cd_split ct_split), sl_split⟩)
    (c_split : PySem.W.codeIn K cd_split "split" = true)
    (kp_split : PySem.W.keepIn K (.ref a_split) = true)
    (n__law_told : PySem.W.nsIn K mainGlobals "_law_told" = some (some (.ref a__law_told)))
    (l__law_told : K.lookup a__law_told = some ⟨oc__law_told, od__law_told, .func (PySem.W.fnOf "_law_told" "_law_told" (defArgs s__law_told) (defBody s__law_told) (defScope s__law_told) .none kV__law_told dc__law_told pm__law_told an__law_told cd__law_told ct__law_told), sl__law_told⟩)
    (c__law_told : PySem.W.codeIn K cd__law_told "_law_told" = true)
    (kp__law_told : PySem.W.keepIn K (.ref a__law_told) = true)
    (n__law_diagonals : PySem.W.nsIn K mainGlobals "_law_diagonals" = some (some (.ref a__law_diagonals)))
    (l__law_diagonals : K.lookup a__law_diagonals = some ⟨oc__law_diagonals, od__law_diagonals, .func (PySem.W.fnOf "_law_diagonals" "_law_diagonals" (defArgs s__law_diagonals) (defBody s__law_diagonals) (defScope s__law_diagonals) .none kV__law_diagonals dc__law_diagonals pm__law_diagonals an__law_diagonals cd__law_diagonals ct__law_diagonals), sl__law_diagonals⟩)
    (c__law_diagonals : PySem.W.codeIn K cd__law_diagonals "_law_diagonals" = true)
    (kp__law_diagonals : PySem.W.keepIn K (.ref a__law_diagonals) = true)
    (n__law_dues : PySem.W.nsIn K mainGlobals "_law_dues" = some (some (.ref a__law_dues)))
    (l__law_dues : K.lookup a__law_dues = some ⟨oc__law_dues, od__law_dues, .func (PySem.W.fnOf "_law_dues" "_law_dues" (defArgs s__law_dues) (defBody s__law_dues) (defScope s__law_dues) .none kV__law_dues dc__law_dues pm__law_dues an__law_dues cd__law_dues ct__law_dues), sl__law_dues⟩)
    (c__law_dues : PySem.W.codeIn K cd__law_dues "_law_dues" = true)
    (kp__law_dues : PySem.W.keepIn K (.ref a__law_dues) = true)
    (n__law_four_holds : PySem.W.nsIn K mainGlobals "_law_four_holds" = some (some (.ref a__law_four_holds)))
    (l__law_four_holds : K.lookup a__law_four_holds = some ⟨oc__law_four_holds, od__law_four_holds, .func (PySem.W.fnOf "_law_four_holds" "_law_four_holds" (defArgs s__law_four_holds) (defBody s__law_four_holds) (defScope s__law_four_holds) .none kV__law_four_holds dc__law_four_holds pm__law_four_holds an__law_four_holds cd__law_four_holds ct__law_four_holds), sl__law_four_holds⟩)
    (c__law_four_holds : PySem.W.codeIn K cd__law_four_holds "_law_four_holds" = true)
    (kp__law_four_holds : PySem.W.keepIn K (.ref a__law_four_holds) = true)
    (n__law_digits : PySem.W.nsIn K mainGlobals "_law_digits" = some (some (.ref a__law_digits)))
    (l__law_digits : K.lookup a__law_digits = some ⟨oc__law_digits, od__law_digits, .func (PySem.W.fnOf "_law_digits" "_law_digits" (defArgs s__law_digits) (defBody s__law_digits) (defScope s__law_digits) .none kV__law_digits dc__law_digits pm__law_digits an__law_digits cd__law_digits ct__law_digits), sl__law_digits⟩)
    (c__law_digits : PySem.W.codeIn K cd__law_digits "_law_digits" = true)
    (kp__law_digits : PySem.W.keepIn K (.ref a__law_digits) = true)
    (n__law_cell : PySem.W.nsIn K mainGlobals "_law_cell" = some (some (.ref a__law_cell)))
    (l__law_cell : K.lookup a__law_cell = some ⟨oc__law_cell, od__law_cell, .func (PySem.W.fnOf "_law_cell" "_law_cell" (defArgs s__law_cell) (defBody s__law_cell) (defScope s__law_cell) .none kV__law_cell dc__law_cell pm__law_cell an__law_cell cd__law_cell ct__law_cell), sl__law_cell⟩)
    (c__law_cell : PySem.W.codeIn K cd__law_cell "_law_cell" = true)
    (kp__law_cell : PySem.W.keepIn K (.ref a__law_cell) = true)
    (n__law_order : PySem.W.nsIn K mainGlobals "_law_order" = some (some (.ref a__law_order)))
    (l__law_order : K.lookup a__law_order = some ⟨oc__law_order, od__law_order, .func (PySem.W.fnOf "_law_order" "_law_order" (defArgs s__law_order) (defBody s__law_order) (defScope s__law_order) .none kV__law_order dc__law_order pm__law_order an__law_order cd__law_order ct__law_order), sl__law_order⟩)
    (c__law_order : PySem.W.codeIn K cd__law_order "_law_order" = true)
    (kp__law_order : PySem.W.keepIn K (.ref a__law_order) = true)
    (n_check_turns : PySem.W.nsIn K mainGlobals "check_turns" = some (some (.ref a_check_turns)))
    (l_check_turns : K.lookup a_check_turns = some ⟨oc_check_turns, od_check_turns, .func (PySem.W.fnOf "check_turns" "check_turns" (defArgs s_check_turns) (defBody s_check_turns) (defScope s_check_turns) .none kV_check_turns dc_check_turns pm_check_turns an_check_turns cd_check_turns ct_check_turns), sl_check_turns⟩)
    (c_check_turns : PySem.W.codeIn K cd_check_turns "check_turns" = true)
    (kp_check_turns : PySem.W.keepIn K (.ref a_check_turns) = true)
    (n_check_point : PySem.W.nsIn K mainGlobals "check_point" = some (some (.ref a_check_point)))
    (l_check_point : K.lookup a_check_point = some ⟨oc_check_point, od_check_point, .func (PySem.W.fnOf "check_point" "check_point" (defArgs s_check_point) (defBody s_check_point) (defScope s_check_point) .none kV_check_point dc_check_point pm_check_point an_check_point cd_check_point ct_check_point), sl_check_point⟩)
    (c_check_point : PySem.W.codeIn K cd_check_point "check_point" = true)
    (kp_check_point : PySem.W.keepIn K (.ref a_check_point) = true)
    (n_check_count : PySem.W.nsIn K mainGlobals "check_count" = some (some (.ref a_check_count)))
    (l_check_count : K.lookup a_check_count = some ⟨oc_check_count, od_check_count, .func (PySem.W.fnOf "check_count" "check_count" (defArgs s_check_count) (defBody s_check_count) (defScope s_check_count) .none kV_check_count dc_check_count pm_check_count an_check_count cd_check_count ct_check_count), sl_check_count⟩)
    (c_check_count : PySem.W.codeIn K cd_check_count "check_count" = true)
    (kp_check_count : PySem.W.keepIn K (.ref a_check_count) = true)
    (f_Floor___init__ : PySem.W.findIn K (.ref a_Floor) "__init__" = some (some (.ref a_Floor___init__)))
    (fi_Floor___init__ : PySem.W.isFn K (.ref a_Floor___init__) = true)
    (l_Floor___init__ : K.lookup a_Floor___init__ = some ⟨oc_Floor___init__, od_Floor___init__, .func (PySem.W.fnOf "__init__" "Floor.__init__" (defArgs s_Floor___init__) (defBody s_Floor___init__) (defScope s_Floor___init__) .none kV_Floor___init__ dc_Floor___init__ pm_Floor___init__ an_Floor___init__ cd_Floor___init__ ct_Floor___init__), sl_Floor___init__⟩)
    (c_Floor___init__ : PySem.W.codeIn K cd_Floor___init__ "Floor.__init__" = true)
    (kp_Floor___init__ : PySem.W.keepIn K (.ref a_Floor___init__) = true)
    (mk_Floor : PySem.W.makesIn K a_Floor = true)
    (kc_Floor : PySem.W.keepIn K (.ref a_Floor) = true)
    (n__law_made : PySem.W.nsIn K mainGlobals "_law_made" = some (some (.ref a__law_made)))
    (l__law_made : K.lookup a__law_made = some ⟨oc__law_made, od__law_made, .func (PySem.W.fnOf "_law_made" "_law_made" (defArgs s__law_made) (defBody s__law_made) (defScope s__law_made) .none kV__law_made dc__law_made pm__law_made an__law_made cd__law_made ct__law_made), sl__law_made⟩)
    (c__law_made : PySem.W.codeIn K cd__law_made "_law_made" = true)
    (kp__law_made : PySem.W.keepIn K (.ref a__law_made) = true)
    (n__law_refusal : PySem.W.nsIn K mainGlobals "_law_refusal" = some (some (.ref a__law_refusal)))
    (l__law_refusal : K.lookup a__law_refusal = some ⟨oc__law_refusal, od__law_refusal, .func (PySem.W.fnOf "_law_refusal" "_law_refusal" (defArgs s__law_refusal) (defBody s__law_refusal) (defScope s__law_refusal) .none kV__law_refusal dc__law_refusal pm__law_refusal an__law_refusal cd__law_refusal ct__law_refusal), sl__law_refusal⟩)
    (c__law_refusal : PySem.W.codeIn K cd__law_refusal "_law_refusal" = true)
    (kp__law_refusal : PySem.W.keepIn K (.ref a__law_refusal) = true)
    (n__law_drawn : PySem.W.nsIn K mainGlobals "_law_drawn" = some (some (.ref a__law_drawn)))
    (l__law_drawn : K.lookup a__law_drawn = some ⟨oc__law_drawn, od__law_drawn, .func (PySem.W.fnOf "_law_drawn" "_law_drawn" (defArgs s__law_drawn) (defBody s__law_drawn) (defScope s__law_drawn) .none kV__law_drawn dc__law_drawn pm__law_drawn an__law_drawn cd__law_drawn ct__law_drawn), sl__law_drawn⟩)
    (c__law_drawn : PySem.W.codeIn K cd__law_drawn "_law_drawn" = true)
    (kp__law_drawn : PySem.W.keepIn K (.ref a__law_drawn) = true)
    (n_law : PySem.W.nsIn K mainGlobals "law" = some (some (.ref a_law)))
    (l_law : K.lookup a_law = some ⟨oc_law, od_law, .func (PySem.W.fnOf "law" "law" (defArgs s_law) (defBody s_law) (defScope s_law) .none kV_law dc_law pm_law an_law cd_law ct_law), sl_law⟩)
    (c_law : PySem.W.codeIn K cd_law "law" = true)
    (kp_law : PySem.W.keepIn K (.ref a_law) = true)
    (n_comb : PySem.W.nsIn K mainGlobals "comb" = some (some (.builtin "math.comb")))
    (z_ValueError : PySem.W.nsIn K mainGlobals "ValueError" = some none)
    (z_abs : PySem.W.nsIn K mainGlobals "abs" = some none)
    (z_bool : PySem.W.nsIn K mainGlobals "bool" = some none)
    (z_enumerate : PySem.W.nsIn K mainGlobals "enumerate" = some none)
    (z_int : PySem.W.nsIn K mainGlobals "int" = some none)
    (z_isinstance : PySem.W.nsIn K mainGlobals "isinstance" = some none)
    (z_len : PySem.W.nsIn K mainGlobals "len" = some none)
    (z_list : PySem.W.nsIn K mainGlobals "list" = some none)
    (z_range : PySem.W.nsIn K mainGlobals "range" = some none)
    (z_repr : PySem.W.nsIn K mainGlobals "repr" = some none)
    (z_sorted : PySem.W.nsIn K mainGlobals "sorted" = some none)
    (z_sum : PySem.W.nsIn K mainGlobals "sum" = some none)
    (z_tuple : PySem.W.nsIn K mainGlobals "tuple" = some none)
    (s_WrongCount_BowlError : PySem.W.subIn K (.ref a_WrongCount) (.ref a_BowlError) = some true)
    (s_WrongCount_ValueError : PySem.W.subIn K (.ref a_WrongCount) (.type "ValueError") = some true)
    (s_TooFar_BowlError : PySem.W.subIn K (.ref a_TooFar) (.ref a_BowlError) = some true)
    (s_TooFar_ValueError : PySem.W.subIn K (.ref a_TooFar) (.type "ValueError") = some true)
    (s_OnLine_BowlError : PySem.W.subIn K (.ref a_OnLine) (.ref a_BowlError) = some true)
    (s_OnLine_ValueError : PySem.W.subIn K (.ref a_OnLine) (.type "ValueError") = some true)
    (s_NoPoint_BowlError : PySem.W.subIn K (.ref a_NoPoint) (.ref a_BowlError) = some true)
    (s_NoPoint_ValueError : PySem.W.subIn K (.ref a_NoPoint) (.type "ValueError") = some true)
    (s_Repeated_BowlError : PySem.W.subIn K (.ref a_Repeated) (.ref a_BowlError) = some true)
    (s_Repeated_ValueError : PySem.W.subIn K (.ref a_Repeated) (.type "ValueError") = some true)
    (s_WrongCount_WrongCount : PySem.W.subIn K (.ref a_WrongCount) (.ref a_WrongCount) = some true)
    (s_WrongCount_OnLine : PySem.W.subIn K (.ref a_WrongCount) (.ref a_OnLine) = some false)
    (s_WrongCount_TooFar : PySem.W.subIn K (.ref a_WrongCount) (.ref a_TooFar) = some false)
    (s_TooFar_TooFar : PySem.W.subIn K (.ref a_TooFar) (.ref a_TooFar) = some true)
    (s_TooFar_OnLine : PySem.W.subIn K (.ref a_TooFar) (.ref a_OnLine) = some false)
    (s_TooFar_WrongCount : PySem.W.subIn K (.ref a_TooFar) (.ref a_WrongCount) = some false)
    (s_OnLine_OnLine : PySem.W.subIn K (.ref a_OnLine) (.ref a_OnLine) = some true)
    (s_OnLine_TooFar : PySem.W.subIn K (.ref a_OnLine) (.ref a_TooFar) = some false)
    (s_OnLine_WrongCount : PySem.W.subIn K (.ref a_OnLine) (.ref a_WrongCount) = some false)
    (s_NoPoint_NoPoint : PySem.W.subIn K (.ref a_NoPoint) (.ref a_NoPoint) = some true)
    (s_NoPoint_Repeated : PySem.W.subIn K (.ref a_NoPoint) (.ref a_Repeated) = some false)
    (s_NoPoint_TooFar : PySem.W.subIn K (.ref a_NoPoint) (.ref a_TooFar) = some false)
    (s_Repeated_Repeated : PySem.W.subIn K (.ref a_Repeated) (.ref a_Repeated) = some true)
    (s_Repeated_NoPoint : PySem.W.subIn K (.ref a_Repeated) (.ref a_NoPoint) = some false)
    (s_Repeated_TooFar : PySem.W.subIn K (.ref a_Repeated) (.ref a_TooFar) = some false) :
    ∃ T : Tx K mg, mg "law" = some (.ref T.a_law) :=
  ⟨{ a_Repeated := a_Repeated,
     i_Repeated := i_Repeated,
     fd_Repeated := _,
     g_Repeated := PySem.W.mg_of X G n_Repeated,
     F_Repeated := fun_mk (st := s_Repeated) l_Repeated c_Repeated kp_Repeated,
     X_Repeated := ⟨⟨⟨_, _, _, _, _, _, _, _, _, _, _, _, _, _, _, o_Repeated, v_Repeated⟩, sa_Repeated, sb_Repeated, ty_Repeated, kc_Repeated⟩, ii_Repeated, ti_Repeated, nf_Repeated, ⟨ga_Repeated, gt_Repeated, sb_Repeated, hd_Repeated⟩, ⟨is_Repeated, ga_Repeated, gt_Repeated, sb_Repeated, ca_Repeated, gn, tkc, mo_Repeated⟩⟩,
     a_NoPoint := a_NoPoint,
     i_NoPoint := i_NoPoint,
     fd_NoPoint := _,
     g_NoPoint := PySem.W.mg_of X G n_NoPoint,
     F_NoPoint := fun_mk (st := s_NoPoint) l_NoPoint c_NoPoint kp_NoPoint,
     X_NoPoint := ⟨⟨⟨_, _, _, _, _, _, _, _, _, _, _, _, _, _, _, o_NoPoint, v_NoPoint⟩, sa_NoPoint, sb_NoPoint, ty_NoPoint, kc_NoPoint⟩, ii_NoPoint, ti_NoPoint, nf_NoPoint, ⟨ga_NoPoint, gt_NoPoint, sb_NoPoint, hd_NoPoint⟩, ⟨is_NoPoint, ga_NoPoint, gt_NoPoint, sb_NoPoint, ca_NoPoint, gn, tkc, mo_NoPoint⟩⟩,
     a_TooFar := a_TooFar,
     i_TooFar := i_TooFar,
     fd_TooFar := _,
     g_TooFar := PySem.W.mg_of X G n_TooFar,
     F_TooFar := fun_mk (st := s_TooFar) l_TooFar c_TooFar kp_TooFar,
     X_TooFar := ⟨⟨⟨_, _, _, _, _, _, _, _, _, _, _, _, _, _, _, o_TooFar, v_TooFar⟩, sa_TooFar, sb_TooFar, ty_TooFar, kc_TooFar⟩, ii_TooFar, ti_TooFar, nf_TooFar, ⟨ga_TooFar, gt_TooFar, sb_TooFar, hd_TooFar⟩, ⟨is_TooFar, ga_TooFar, gt_TooFar, sb_TooFar, ca_TooFar, gn, tkc, mo_TooFar⟩⟩,
     a_OnLine := a_OnLine,
     i_OnLine := i_OnLine,
     fd_OnLine := _,
     g_OnLine := PySem.W.mg_of X G n_OnLine,
     F_OnLine := fun_mk (st := s_OnLine) l_OnLine c_OnLine kp_OnLine,
     X_OnLine := ⟨⟨⟨_, _, _, _, _, _, _, _, _, _, _, _, _, _, _, o_OnLine, v_OnLine⟩, sa_OnLine, sb_OnLine, ty_OnLine, kc_OnLine⟩, ii_OnLine, ti_OnLine, nf_OnLine, ⟨ga_OnLine, gt_OnLine, sb_OnLine, hd_OnLine⟩, ⟨is_OnLine, ga_OnLine, gt_OnLine, sb_OnLine, ca_OnLine, gn, tkc, mo_OnLine⟩⟩,
     a_WrongCount := a_WrongCount,
     i_WrongCount := i_WrongCount,
     fd_WrongCount := _,
     g_WrongCount := PySem.W.mg_of X G n_WrongCount,
     F_WrongCount := fun_mk (st := s_WrongCount) l_WrongCount c_WrongCount kp_WrongCount,
     X_WrongCount := ⟨⟨⟨_, _, _, _, _, _, _, _, _, _, _, _, _, _, _, o_WrongCount, v_WrongCount⟩, sa_WrongCount, sb_WrongCount, ty_WrongCount, kc_WrongCount⟩, ii_WrongCount, ti_WrongCount, nf_WrongCount, ⟨ga_WrongCount, gt_WrongCount, sb_WrongCount, hd_WrongCount⟩, ⟨is_WrongCount, ga_WrongCount, gt_WrongCount, sb_WrongCount, ca_WrongCount, gn, tkc, mo_WrongCount⟩⟩,
     a_BowlError := a_BowlError,
     g_BowlError := PySem.W.mg_of X G n_BowlError,
     gn := gn,
     tkc := tkc,
     a_Floor := a_Floor,
     mc_Floor := mc_Floor,
     g_Floor := PySem.W.mg_of X G n_Floor,
     C_Floor := ⟨pg_Floor, hd_Floor, po_Floor, sa_Floor⟩,
     cr_Floor := ⟨rd_Floor, gc_Floor⟩,
     n_Floor_points := na_Floor_points,
     u_Floor_LEAST := _,
     cv_Floor_LEAST := ⟨cv_Floor_LEAST, ⟨_, rfl⟩⟩,
     u_Floor_MOST := _,
     cv_Floor_MOST := ⟨cv_Floor_MOST, ⟨_, rfl⟩⟩,
     u_Floor_FAR := _,
     cv_Floor_FAR := ⟨cv_Floor_FAR, ⟨_, rfl⟩⟩,
     ca_Floor := ca_Floor,
     mo_Floor := mo_Floor,
     ki_Floor := EB.kit_refl,
     fd_corners_by_lines := _,
     F_corners_by_lines := fun_mk (st := s_corners_by_lines) l_corners_by_lines c_corners_by_lines kp_corners_by_lines,
     g_corners_by_lines := PySem.W.mg_of X G n_corners_by_lines,
     a_corners_by_lines := a_corners_by_lines,
     fd_tally := _,
     F_tally := fun_mk (st := s_tally) l_tally c_tally kp_tally,
     g_tally := PySem.W.mg_of X G n_tally,
     a_tally := a_tally,
     fd_Floor___len__ := _,
     F_Floor___len__ := fun_mk (st := s_Floor___len__) l_Floor___len__ c_Floor___len__ kp_Floor___len__,
     m_Floor___len__ := ⟨f_Floor___len__, fi_Floor___len__, kp_Floor___len__⟩,
     a_Floor___len__ := a_Floor___len__,
     fd_others := _,
     F_others := fun_mk (st := s_others) l_others c_others kp_others,
     g_others := PySem.W.mg_of X G n_others,
     a_others := a_others,
     fd_bare_area := _,
     F_bare_area := fun_mk (st := s_bare_area) l_bare_area c_bare_area kp_bare_area,
     g_bare_area := PySem.W.mg_of X G n_bare_area,
     a_bare_area := a_bare_area,
     fd_check_number := _,
     F_check_number := fun_mk (st := s_check_number) l_check_number c_check_number kp_check_number,
     g_check_number := PySem.W.mg_of X G n_check_number,
     a_check_number := a_check_number,
     fd_check_numbers := _,
     F_check_numbers := fun_mk (st := s_check_numbers) l_check_numbers c_check_numbers kp_check_numbers,
     g_check_numbers := PySem.W.mg_of X G n_check_numbers,
     a_check_numbers := a_check_numbers,
     fd_Floor_left_of := _,
     F_Floor_left_of := fun_mk (st := s_Floor_left_of) l_Floor_left_of c_Floor_left_of kp_Floor_left_of,
     m_Floor_left_of := ⟨f_Floor_left_of, fi_Floor_left_of, kp_Floor_left_of⟩,
     a_Floor_left_of := a_Floor_left_of,
     fd_lines_and_lefts := _,
     F_lines_and_lefts := fun_mk (st := s_lines_and_lefts) l_lines_and_lefts c_lines_and_lefts kp_lines_and_lefts,
     g_lines_and_lefts := PySem.W.mg_of X G n_lines_and_lefts,
     a_lines_and_lefts := a_lines_and_lefts,
     fd_line_row := _,
     F_line_row := fun_mk (st := s_line_row) l_line_row c_line_row kp_line_row,
     g_line_row := PySem.W.mg_of X G n_line_row,
     a_line_row := a_line_row,
     fd_corner_row := _,
     F_corner_row := fun_mk (st := s_corner_row) l_corner_row c_corner_row kp_corner_row,
     g_corner_row := PySem.W.mg_of X G n_corner_row,
     a_corner_row := a_corner_row,
     fd__law_whole := _,
     F__law_whole := fun_mk (st := s__law_whole) l__law_whole c__law_whole kp__law_whole,
     g__law_whole := PySem.W.mg_of X G n__law_whole,
     a__law_whole := a__law_whole,
     fd_check_range := _,
     F_check_range := fun_mk (st := s_check_range) l_check_range c_check_range kp_check_range,
     g_check_range := PySem.W.mg_of X G n_check_range,
     a_check_range := a_check_range,
     fd_choose := _,
     F_choose := fun_mk (st := s_choose) l_choose c_choose kp_choose,
     g_choose := PySem.W.mg_of X G n_choose,
     a_choose := a_choose,
     fd_first_behind := _,
     F_first_behind := fun_mk (st := s_first_behind) l_first_behind c_first_behind kp_first_behind,
     g_first_behind := PySem.W.mg_of X G n_first_behind,
     a_first_behind := a_first_behind,
     fd_subset_list := _,
     F_subset_list := fun_mk (st := s_subset_list) l_subset_list c_subset_list kp_subset_list,
     g_subset_list := PySem.W.mg_of X G n_subset_list,
     a_subset_list := a_subset_list,
     fd_is_within := _,
     F_is_within := fun_mk (st := s_is_within) l_is_within c_is_within kp_is_within,
     g_is_within := PySem.W.mg_of X G n_is_within,
     a_is_within := a_is_within,
     fd_is_around := _,
     F_is_around := fun_mk (st := s_is_around) l_is_around c_is_around kp_is_around,
     g_is_around := PySem.W.mg_of X G n_is_around,
     a_is_around := a_is_around,
     fd_inner_pairs := _,
     F_inner_pairs := fun_mk (st := s_inner_pairs) l_inner_pairs c_inner_pairs kp_inner_pairs,
     g_inner_pairs := PySem.W.mg_of X G n_inner_pairs,
     a_inner_pairs := a_inner_pairs,
     fd_convex_fours := _,
     F_convex_fours := fun_mk (st := s_convex_fours) l_convex_fours c_convex_fours kp_convex_fours,
     g_convex_fours := PySem.W.mg_of X G n_convex_fours,
     a_convex_fours := a_convex_fours,
     fd__law_counts_hold := _,
     F__law_counts_hold := fun_mk (st := s__law_counts_hold) l__law_counts_hold c__law_counts_hold kp__law_counts_hold,
     g__law_counts_hold := PySem.W.mg_of X G n__law_counts_hold,
     a__law_counts_hold := a__law_counts_hold,
     fd__law_pairs_hold := _,
     F__law_pairs_hold := fun_mk (st := s__law_pairs_hold) l__law_pairs_hold c__law_pairs_hold kp__law_pairs_hold,
     g__law_pairs_hold := PySem.W.mg_of X G n__law_pairs_hold,
     a__law_pairs_hold := a__law_pairs_hold,
     fd__law_fours := _,
     F__law_fours := fun_mk (st := s__law_fours) l__law_fours c__law_fours kp__law_fours,
     g__law_fours := PySem.W.mg_of X G n__law_fours,
     a__law_fours := a__law_fours,
     fd__law_area := _,
     F__law_area := fun_mk (st := s__law_area) l__law_area c__law_area kp__law_area,
     g__law_area := PySem.W.mg_of X G n__law_area,
     a__law_area := a__law_area,
     fd__law_is_within := _,
     F__law_is_within := fun_mk (st := s__law_is_within) l__law_is_within c__law_is_within kp__law_is_within,
     g__law_is_within := PySem.W.mg_of X G n__law_is_within,
     a__law_is_within := a__law_is_within,
     fd__law_inner := _,
     F__law_inner := fun_mk (st := s__law_inner) l__law_inner c__law_inner kp__law_inner,
     g__law_inner := PySem.W.mg_of X G n__law_inner,
     a__law_inner := a__law_inner,
     fd__law_pairs := _,
     F__law_pairs := fun_mk (st := s__law_pairs) l__law_pairs c__law_pairs kp__law_pairs,
     g__law_pairs := PySem.W.mg_of X G n__law_pairs,
     a__law_pairs := a__law_pairs,
     fd_rest_of := _,
     F_rest_of := fun_mk (st := s_rest_of) l_rest_of c_rest_of kp_rest_of,
     g_rest_of := PySem.W.mg_of X G n_rest_of,
     a_rest_of := a_rest_of,
     fd_inner_of := _,
     F_inner_of := fun_mk (st := s_inner_of) l_inner_of c_inner_of kp_inner_of,
     g_inner_of := PySem.W.mg_of X G n_inner_of,
     a_inner_of := a_inner_of,
     fd_left_among := _,
     F_left_among := fun_mk (st := s_left_among) l_left_among c_left_among kp_left_among,
     g_left_among := PySem.W.mg_of X G n_left_among,
     a_left_among := a_left_among,
     fd_diagonal := _,
     F_diagonal := fun_mk (st := s_diagonal) l_diagonal c_diagonal kp_diagonal,
     g_diagonal := PySem.W.mg_of X G n_diagonal,
     a_diagonal := a_diagonal,
     fd_split := _,
     F_split := fun_mk (st := s_split) l_split c_split kp_split,
     g_split := PySem.W.mg_of X G n_split,
     a_split := a_split,
     fd__law_told := _,
     F__law_told := fun_mk (st := s__law_told) l__law_told c__law_told kp__law_told,
     g__law_told := PySem.W.mg_of X G n__law_told,
     a__law_told := a__law_told,
     fd__law_diagonals := _,
     F__law_diagonals := fun_mk (st := s__law_diagonals) l__law_diagonals c__law_diagonals kp__law_diagonals,
     g__law_diagonals := PySem.W.mg_of X G n__law_diagonals,
     a__law_diagonals := a__law_diagonals,
     fd__law_dues := _,
     F__law_dues := fun_mk (st := s__law_dues) l__law_dues c__law_dues kp__law_dues,
     g__law_dues := PySem.W.mg_of X G n__law_dues,
     a__law_dues := a__law_dues,
     fd__law_four_holds := _,
     F__law_four_holds := fun_mk (st := s__law_four_holds) l__law_four_holds c__law_four_holds kp__law_four_holds,
     g__law_four_holds := PySem.W.mg_of X G n__law_four_holds,
     a__law_four_holds := a__law_four_holds,
     fd__law_digits := _,
     F__law_digits := fun_mk (st := s__law_digits) l__law_digits c__law_digits kp__law_digits,
     g__law_digits := PySem.W.mg_of X G n__law_digits,
     a__law_digits := a__law_digits,
     fd__law_cell := _,
     F__law_cell := fun_mk (st := s__law_cell) l__law_cell c__law_cell kp__law_cell,
     g__law_cell := PySem.W.mg_of X G n__law_cell,
     a__law_cell := a__law_cell,
     fd__law_order := _,
     F__law_order := fun_mk (st := s__law_order) l__law_order c__law_order kp__law_order,
     g__law_order := PySem.W.mg_of X G n__law_order,
     a__law_order := a__law_order,
     fd_check_turns := _,
     F_check_turns := fun_mk (st := s_check_turns) l_check_turns c_check_turns kp_check_turns,
     g_check_turns := PySem.W.mg_of X G n_check_turns,
     a_check_turns := a_check_turns,
     fd_check_point := _,
     F_check_point := fun_mk (st := s_check_point) l_check_point c_check_point kp_check_point,
     g_check_point := PySem.W.mg_of X G n_check_point,
     a_check_point := a_check_point,
     fd_check_count := _,
     F_check_count := fun_mk (st := s_check_count) l_check_count c_check_count kp_check_count,
     g_check_count := PySem.W.mg_of X G n_check_count,
     a_check_count := a_check_count,
     fd_Floor___init__ := _,
     F_Floor___init__ := fun_mk (st := s_Floor___init__) l_Floor___init__ c_Floor___init__ kp_Floor___init__,
     M_Floor := ⟨mk_Floor, f_Floor___init__, fi_Floor___init__, kc_Floor⟩,
     a_Floor___init__ := a_Floor___init__,
     fd__law_made := _,
     F__law_made := fun_mk (st := s__law_made) l__law_made c__law_made kp__law_made,
     g__law_made := PySem.W.mg_of X G n__law_made,
     a__law_made := a__law_made,
     fd__law_refusal := _,
     F__law_refusal := fun_mk (st := s__law_refusal) l__law_refusal c__law_refusal kp__law_refusal,
     g__law_refusal := PySem.W.mg_of X G n__law_refusal,
     a__law_refusal := a__law_refusal,
     fd__law_drawn := _,
     F__law_drawn := fun_mk (st := s__law_drawn) l__law_drawn c__law_drawn kp__law_drawn,
     g__law_drawn := PySem.W.mg_of X G n__law_drawn,
     a__law_drawn := a__law_drawn,
     fd_law := _,
     F_law := fun_mk (st := s_law) l_law c_law kp_law,
     g_law := PySem.W.mg_of X G n_law,
     a_law := a_law,
     g_comb := PySem.W.mg_of X G n_comb,
     z_ValueError := PySem.W.mg_none_of X G z_ValueError,
     z_abs := PySem.W.mg_none_of X G z_abs,
     z_bool := PySem.W.mg_none_of X G z_bool,
     z_enumerate := PySem.W.mg_none_of X G z_enumerate,
     z_int := PySem.W.mg_none_of X G z_int,
     z_isinstance := PySem.W.mg_none_of X G z_isinstance,
     z_len := PySem.W.mg_none_of X G z_len,
     z_list := PySem.W.mg_none_of X G z_list,
     z_range := PySem.W.mg_none_of X G z_range,
     z_repr := PySem.W.mg_none_of X G z_repr,
     z_sorted := PySem.W.mg_none_of X G z_sorted,
     z_sum := PySem.W.mg_none_of X G z_sum,
     z_tuple := PySem.W.mg_none_of X G z_tuple,
     k_WrongCount_BowlError := EB.kit_sub is_BowlError ty_BowlError s_WrongCount_BowlError fun _ => rfl,
     k_WrongCount_ValueError := EB.kit_val s_WrongCount_ValueError,
     k_TooFar_BowlError := EB.kit_sub is_BowlError ty_BowlError s_TooFar_BowlError fun _ => rfl,
     k_TooFar_ValueError := EB.kit_val s_TooFar_ValueError,
     k_OnLine_BowlError := EB.kit_sub is_BowlError ty_BowlError s_OnLine_BowlError fun _ => rfl,
     k_OnLine_ValueError := EB.kit_val s_OnLine_ValueError,
     k_NoPoint_BowlError := EB.kit_sub is_BowlError ty_BowlError s_NoPoint_BowlError fun _ => rfl,
     k_NoPoint_ValueError := EB.kit_val s_NoPoint_ValueError,
     k_Repeated_BowlError := EB.kit_sub is_BowlError ty_BowlError s_Repeated_BowlError fun _ => rfl,
     k_Repeated_ValueError := EB.kit_val s_Repeated_ValueError,
     k_WrongCount_OnLine_TooFar := EB.kit_any2 (EB.kit_off is_OnLine ty_OnLine s_WrongCount_WrongCount s_WrongCount_OnLine) (EB.kit_off is_TooFar ty_TooFar s_WrongCount_WrongCount s_WrongCount_TooFar),
     k_TooFar_OnLine_WrongCount := EB.kit_any2 (EB.kit_off is_OnLine ty_OnLine s_TooFar_TooFar s_TooFar_OnLine) (EB.kit_off is_WrongCount ty_WrongCount s_TooFar_TooFar s_TooFar_WrongCount),
     k_OnLine_TooFar_WrongCount := EB.kit_any2 (EB.kit_off is_TooFar ty_TooFar s_OnLine_OnLine s_OnLine_TooFar) (EB.kit_off is_WrongCount ty_WrongCount s_OnLine_OnLine s_OnLine_WrongCount),
     k_NoPoint_Repeated_TooFar := EB.kit_any2 (EB.kit_off is_Repeated ty_Repeated s_NoPoint_NoPoint s_NoPoint_Repeated) (EB.kit_off is_TooFar ty_TooFar s_NoPoint_NoPoint s_NoPoint_TooFar),
     k_Repeated_NoPoint_TooFar := EB.kit_any2 (EB.kit_off is_NoPoint ty_NoPoint s_Repeated_Repeated s_Repeated_NoPoint) (EB.kit_off is_TooFar ty_TooFar s_Repeated_Repeated s_Repeated_TooFar),
     x_WrongCount_WrongCount := EB.exm_sub sb_WrongCount is_WrongCount ty_WrongCount s_WrongCount_WrongCount,
     x_TooFar_WrongCount := EB.exm_sub sb_WrongCount is_WrongCount ty_WrongCount s_TooFar_WrongCount,
     x_TooFar_TooFar := EB.exm_sub sb_TooFar is_TooFar ty_TooFar s_TooFar_TooFar,
     x_OnLine_WrongCount := EB.exm_sub sb_WrongCount is_WrongCount ty_WrongCount s_OnLine_WrongCount,
     x_OnLine_TooFar := EB.exm_sub sb_TooFar is_TooFar ty_TooFar s_OnLine_TooFar,
     x_OnLine_OnLine := EB.exm_sub sb_OnLine is_OnLine ty_OnLine s_OnLine_OnLine,
     x_NoPoint_NoPoint := EB.exm_sub sb_NoPoint is_NoPoint ty_NoPoint s_NoPoint_NoPoint,
     x_Repeated_NoPoint := EB.exm_sub sb_NoPoint is_NoPoint ty_NoPoint s_Repeated_NoPoint,
     x_Repeated_Repeated := EB.exm_sub sb_Repeated is_Repeated ty_Repeated s_Repeated_Repeated }, PySem.W.mg_of X G n_law⟩
end K11

namespace K11
open PySem PySem.Spec PyProof.Rows L2 Evl EB
theorem ok_WrongCount {P : Program} {w : World} {K : PySem.W.Frag} {mg : Str → Option Value} {base : Heap} (T : Tx K mg) : FnOk P w K mg base CX0 1 T.i_WrongCount T.fd_WrongCount ["self", "count"] (spErr T.a_WrongCount "count") := by
  refine T.F_WrongCount.ok sc_WrongCount (fun vs H Q E h => by obtain ⟨a, u, rfl, _⟩ := h; rfl) (fun cdv A outer s H vs Q E hr h => ?_)
  obtain ⟨a, u, rfl, ha, k⟩ := h
  refine ⟨_, pss_one (ps_ost (pv 0) (pv 1)), ?_⟩
  exact ⟨_, rfl, _, rfl, a, T.a_WrongCount, rfl, T.X_WrongCount.ox, T.X_WrongCount.nf, .inl ⟨ha, k⟩⟩
theorem ok_TooFar {P : Program} {w : World} {K : PySem.W.Frag} {mg : Str → Option Value} {base : Heap} (T : Tx K mg) : FnOk P w K mg base CX0 1 T.i_TooFar T.fd_TooFar ["self", "value"] (spErr T.a_TooFar "value") := by
  refine T.F_TooFar.ok sc_TooFar (fun vs H Q E h => by obtain ⟨a, u, rfl, _⟩ := h; rfl) (fun cdv A outer s H vs Q E hr h => ?_)
  obtain ⟨a, u, rfl, ha, k⟩ := h
  refine ⟨_, pss_one (ps_ost (pv 0) (pv 1)), ?_⟩
  exact ⟨_, rfl, _, rfl, a, T.a_TooFar, rfl, T.X_TooFar.ox, T.X_TooFar.nf, .inl ⟨ha, k⟩⟩
theorem ok_NoPoint {P : Program} {w : World} {K : PySem.W.Frag} {mg : Str → Option Value} {base : Heap} (T : Tx K mg) : FnOk P w K mg base CX0 1 T.i_NoPoint T.fd_NoPoint ["self", "number"] (spErr T.a_NoPoint "number") := by
  refine T.F_NoPoint.ok sc_NoPoint (fun vs H Q E h => by obtain ⟨a, u, rfl, _⟩ := h; rfl) (fun cdv A outer s H vs Q E hr h => ?_)
  obtain ⟨a, u, rfl, ha, k⟩ := h
  refine ⟨_, pss_one (ps_ost (pv 0) (pv 1)), ?_⟩
  exact ⟨_, rfl, _, rfl, a, T.a_NoPoint, rfl, T.X_NoPoint.ox, T.X_NoPoint.nf, .inl ⟨ha, k⟩⟩
theorem ok_Repeated {P : Program} {w : World} {K : PySem.W.Frag} {mg : Str → Option Value} {base : Heap} (T : Tx K mg) : FnOk P w K mg base CX0 1 T.i_Repeated T.fd_Repeated ["self", "number"] (spErr T.a_Repeated "number") := by
  refine T.F_Repeated.ok sc_Repeated (fun vs H Q E h => by obtain ⟨a, u, rfl, _⟩ := h; rfl) (fun cdv A outer s H vs Q E hr h => ?_)
  obtain ⟨a, u, rfl, ha, k⟩ := h
  refine ⟨_, pss_one (ps_ost (pv 0) (pv 1)), ?_⟩
  exact ⟨_, rfl, _, rfl, a, T.a_Repeated, rfl, T.X_Repeated.ox, T.X_Repeated.nf, .inl ⟨ha, k⟩⟩
theorem ok_OnLine {P : Program} {w : World} {K : PySem.W.Frag} {mg : Str → Option Value} {base : Heap} (T : Tx K mg) : FnOk P w K mg base CX0 1 T.i_OnLine T.fd_OnLine ["self", "numbers"] (spErr T.a_OnLine "numbers") := by
  refine T.F_OnLine.ok sc_OnLine (fun vs H Q E h => by obtain ⟨a, u, rfl, _⟩ := h; rfl) (fun cdv A outer s H vs Q E hr h => ?_)
  obtain ⟨a, u, rfl, ha, k⟩ := h
  refine ⟨_, pss_one (ps_ost (pv 0) (pv 1)), ?_⟩
  exact ⟨_, rfl, _, rfl, a, T.a_OnLine, rfl, T.X_OnLine.ox, T.X_OnLine.nf, .inl ⟨ha, k⟩⟩
def inR (lo v hi : Int) : Bool := decide (lo ≤ v) && decide (v ≤ hi)
def sq (b : Bool) (ds : List PyData) : PyData := if b then .list ds else .tuple ds
section
variable {K : PySem.W.Frag}
def args_check_range {K : PySem.W.Frag} {mg : Str → Option Value} (T : Tx K mg) : Int × Int × Int → List PV := fun a => [dv K (.int a.1), dv K (.int a.2.1), dv K (.int a.2.2)]
def dom_check_range : Int × Int × Int → Prop := fun _ => True
def out_check_range {K : PySem.W.Frag} {mg : Str → Option Value} (T : Tx K mg) : Int × Int × Int → Out := fun a => match inR a.2.1 a.1 a.2.2 with | true => .ok (dv K .none) | false => .er ⟨.TooFar, .int a.1⟩
end
theorem ok_check_range {P : Program} {w : World} {K : PySem.W.Frag} {mg : Str → Option Value} {base : Heap} (T : Tx K mg) : FnOk P w K mg base (L2.CX P w) 3 T.a_check_range T.fd_check_range ["value", "least", "most"] (Prm K T.M (args_check_range T) dom_check_range (out_check_range T)) := by
  refine T.F_check_range.okX sc_check_range (fun vs H Q E h => by obtain ⟨a, F, _, al, _⟩ := h; exact al.length) (fun cdv A outer s H vs Q E hr h => ?_)
  have tk : Takes (cxOf (L2.CX P w) P w K mg base N_check_range "check_range" (defScope s_check_range) T.a_check_range cdv A outer s H E) (fun cls d _ H => E cls d H) := takes_of rfl rfl rfl rfl
  obtain ⟨a, F, fh, al, hd, th⟩ := h
  refine ⟨_, (pss_one (ps_if (pt_not (pt_chain op_le op_le (pv 1) (pv 0) (pv 2))) (pss_one (ps_raise rfl tk (pmk_oex (T.X_TooFar).ox (T.X_TooFar).iC (T.X_TooFar).tI (ok_TooFar T) (hr.mono (by decide)) (b_TooFar T) .nil pass0 (by rfl) T.g_TooFar (pa_cons (pv 0) pa_nil)))) pss_nil)), ?_⟩
  cases hb : inR a.2.1 a.1 a.2.2 with
  | true =>
    refine fin_ok (r := .nx _) (js_if (b := false) (jt_is (jt_not (jt_test (je_chainI (je_var rfl) (je_var rfl) (je_var rfl)))) ?_) (fun z => Bool.noConfusion z) (fun _ => js_next)) ?_ fh al th
    · show (!inR a.2.1 a.1 a.2.2) = false
      rw [hb] <;> rfl
    · show Fin K _ (out_check_range T a)
      unfold out_check_range
      rw [hb] <;> rfl
  | false =>
    refine fin_ok (r := .er ⟨.TooFar, .int a.1⟩) (js_if (b := true) (jt_is (jt_not (jt_test (je_chainI (je_var rfl) (je_var rfl) (je_var rfl)))) ?_) (fun _ => js_raise (M := T.M) (c := .TooFar) (ja_cons (je_var rfl) ja_nil)) (fun z => Bool.noConfusion z)) ?_ fh al th
    · show (!inR a.2.1 a.1 a.2.2) = true
      rw [hb] <;> rfl
    · show Fin K _ (out_check_range T a)
      unfold out_check_range
      rw [hb] <;> rfl
end K11

namespace K11
open PySem PySem.Spec PyProof.Rows L2 Evl EB
/-! ### check_count -/
def args_check_count {K : PySem.W.Frag} {mg : Str → Option Value} (T : Tx K mg) : Bool × List PyData × Int × Int → List PV := fun a => [dv K (sq a.1 a.2.1), dv K (.int a.2.2.1), dv K (.int a.2.2.2)]
def dom_check_count : Bool × List PyData × Int × Int → Prop := fun _ => True
def out_check_count {K : PySem.W.Frag} {mg : Str → Option Value} (T : Tx K mg) : Bool × List PyData × Int × Int → Out := fun a => match inR a.2.2.1 a.2.1.length a.2.2.2 with | true => .ok (dv K .none) | false => .er ⟨.WrongCount, .int a.2.1.length⟩
theorem je_lenQ {K : PySem.W.Frag} {M : EC → Addr} {W : WX} {ps : Kn} {te : TE} {b : Bool} {ds : List PyData} (h : JD K M W te ps (sq b ds)) : JD K M W (tCB (rLenS K) (tCons te tNil)) ps (.int ds.length) := by
  cases b with
  | true => exact je_lenL h
  | false => exact je_lenT h
theorem ok_check_count {P : Program} {w : World} {K : PySem.W.Frag} {mg : Str → Option Value} {base : Heap} (T : Tx K mg) : FnOk P w K mg base (L2.CX P w) 3 T.a_check_count T.fd_check_count ["members", "least", "most"] (Prm K T.M (args_check_count T) dom_check_count (out_check_count T)) := by
  refine T.F_check_count.okX sc_check_count (fun vs H Q E h => by obtain ⟨a, F, _, al, _⟩ := h; exact al.length) (fun cdv A outer s H vs Q E hr h => ?_)
  have tk : Takes (cxOf (L2.CX P w) P w K mg base N_check_count "check_count" (defScope s_check_count) T.a_check_count cdv A outer s H E) (fun cls d _ H => E cls d H) := takes_of rfl rfl rfl rfl
  obtain ⟨a, F, fh, al, hd, th⟩ := h
  refine ⟨_, (pss_one (ps_if (pt_not (pt_chain op_le op_le (pv 1) (pe_callB call_len_seq (by rfl) T.z_len PySem.boot_len (pa_cons (pv 0) pa_nil)) (pv 2))) (pss_one (ps_raise rfl tk (pmk_oex (T.X_WrongCount).ox (T.X_WrongCount).iC (T.X_WrongCount).tI (ok_WrongCount T) (hr.mono (by decide)) (b_WrongCount T) .nil pass0 (by rfl) T.g_WrongCount (pa_cons (pe_callB call_len_seq (by rfl) T.z_len PySem.boot_len (pa_cons (pv 0) pa_nil)) pa_nil)))) pss_nil)), ?_⟩
  cases hb : inR a.2.2.1 a.2.1.length a.2.2.2 with
  | true =>
    refine fin_ok (r := .nx _) (js_if (b := false) (jt_is (jt_not (jt_test (je_chainI (je_var rfl) (je_lenQ (je_var rfl)) (je_var rfl)))) ?_) (fun z => Bool.noConfusion z) (fun _ => js_next)) ?_ fh al th
    · show (!inR a.2.2.1 a.2.1.length a.2.2.2) = false
      rw [hb] <;> rfl
    · show Fin K _ (out_check_count T a)
      unfold out_check_count
      rw [hb] <;> rfl
  | false =>
    refine fin_ok (r := .er ⟨.WrongCount, .int a.2.1.length⟩) (js_if (b := true) (jt_is (jt_not (jt_test (je_chainI (je_var rfl) (je_lenQ (je_var rfl)) (je_var rfl)))) ?_) (fun _ => js_raise (M := T.M) (c := .WrongCount) (ja_cons (je_lenQ (je_var rfl)) ja_nil)) (fun z => Bool.noConfusion z)) ?_ fh al th
    · show (!inR a.2.2.1 a.2.1.length a.2.2.2) = true
      rw [hb] <;> rfl
    · show Fin K _ (out_check_count T a)
      unfold out_check_count
      rw [hb] <;> rfl
/-! ### check_number -/
def isNo (k : Int) (n : Int) : Bool := decide (0 ≤ k) && decide (k < n)
def args_check_number {K : PySem.W.Frag} {mg : Str → Option Value} (T : Tx K mg) : Int × Int → List PV := fun a => [dv K (.int a.1), dv K (.int a.2)]
def dom_check_number : Int × Int → Prop := fun _ => True
def out_check_number {K : PySem.W.Frag} {mg : Str → Option Value} (T : Tx K mg) : Int × Int → Out := fun a => match isNo a.1 a.2 with | true => .ok (dv K .none) | false => .er ⟨.NoPoint, .int a.1⟩
theorem ok_check_number {P : Program} {w : World} {K : PySem.W.Frag} {mg : Str → Option Value} {base : Heap} (T : Tx K mg) : FnOk P w K mg base (L2.CX P w) 3 T.a_check_number T.fd_check_number ["number", "n"] (Prm K T.M (args_check_number T) dom_check_number (out_check_number T)) := by
  refine T.F_check_number.okX sc_check_number (fun vs H Q E h => by obtain ⟨a, F, _, al, _⟩ := h; exact al.length) (fun cdv A outer s H vs Q E hr h => ?_)
  have tk : Takes (cxOf (L2.CX P w) P w K mg base N_check_number "check_number" (defScope s_check_number) T.a_check_number cdv A outer s H E) (fun cls d _ H => E cls d H) := takes_of rfl rfl rfl rfl
  obtain ⟨a, F, fh, al, hd, th⟩ := h
  refine ⟨_, (pss_one (ps_if (pt_not (pt_chain op_le op_lt pe_int (pv 0) (pv 1))) (pss_one (ps_raise rfl tk (pmk_oex (T.X_NoPoint).ox (T.X_NoPoint).iC (T.X_NoPoint).tI (ok_NoPoint T) (hr.mono (by decide)) (b_NoPoint T) .nil pass0 (by rfl) T.g_NoPoint (pa_cons (pv 0) pa_nil)))) pss_nil)), ?_⟩
  cases hb : isNo a.1 a.2 with
  | true =>
    refine fin_ok (r := .nx _) (js_if (b := false) (jt_is (jt_not (jt_test (je_chainI je_int (je_var rfl) (je_var rfl)))) ?_) (fun z => Bool.noConfusion z) (fun _ => js_next)) ?_ fh al th
    · show (!isNo a.1 a.2) = false
      rw [hb] <;> rfl
    · show Fin K _ (out_check_number T a)
      unfold out_check_number
      rw [hb] <;> rfl
  | false =>
    refine fin_ok (r := .er ⟨.NoPoint, .int a.1⟩) (js_if (b := true) (jt_is (jt_not (jt_test (je_chainI je_int (je_var rfl) (je_var rfl)))) ?_) (fun _ => js_raise (M := T.M) (c := .NoPoint) (ja_cons (je_var rfl) ja_nil)) (fun z => Bool.noConfusion z)) ?_ fh al th
    · show (!isNo a.1 a.2) = true
      rw [hb] <;> rfl
    · show Fin K _ (out_check_number T a)
      unfold out_check_number
      rw [hb] <;> rfl
/-! ### sign_of, bare_area -/
def sgn (v : Int) : Int := if v > 0 then 1 else if v < 0 then -1 else 0
def args_sign_of {K : PySem.W.Frag} {mg : Str → Option Value} (T : Tx K mg) : Int → List PV := fun a => [dv K (.int a)]
def dom_sign_of : Int → Prop := fun _ => True
def out_sign_of {K : PySem.W.Frag} {mg : Str → Option Value} (T : Tx K mg) : Int → Out := fun a => .ok (dv K (.int (sgn a)))
def area (p q r : Int × Int) : Int := (q.1 - p.1) * (r.2 - p.2) - (q.2 - p.2) * (r.1 - p.1)
def near (p : Int × Int) : Prop := (-(2 ^ 62) ≤ p.1 ∧ p.1 ≤ 2 ^ 62) ∧ (-(2 ^ 62) ≤ p.2 ∧ p.2 ≤ 2 ^ 62)
def args_bare_area {K : PySem.W.Frag} {mg : Str → Option Value} (T : Tx K mg) : (Int × Int) × (Int × Int) × (Int × Int) → List PV := fun a => [dv K (pD a.1), dv K (pD a.2.1), dv K (pD a.2.2)]
def dom_bare_area : (Int × Int) × (Int × Int) × (Int × Int) → Prop := fun a => near a.1 ∧ near a.2.1 ∧ near a.2.2
def out_bare_area {K : PySem.W.Frag} {mg : Str → Option Value} (T : Tx K mg) : (Int × Int) × (Int × Int) × (Int × Int) → Out := fun a => .ok (dv K (.int (area a.1 a.2.1 a.2.2)))
theorem je_x0 {K : PySem.W.Frag} {M : EC → Addr} {W : WX} {ps : Kn} {te : TE} {p : Int × Int} (h : JD K M W te ps (pD p)) : JD K M W (tOp (rIxT K) te (tC (.int 0))) ps (.int p.1) := je_ixT h je_int rfl
theorem je_y1 {K : PySem.W.Frag} {M : EC → Addr} {W : WX} {ps : Kn} {te : TE} {p : Int × Int} (h : JD K M W te ps (pD p)) : JD K M W (tOp (rIxT K) te (tC (.int 1))) ps (.int p.2) := je_ixT h je_int rfl
theorem near_mul {a b : Int} (h : -(2 ^ 63) ≤ a ∧ a ≤ 2 ^ 63) : CMul a b := .inl ⟨by omega, by omega⟩
theorem ok_bare_area {P : Program} {w : World} {K : PySem.W.Frag} {mg : Str → Option Value} {base : Heap} (T : Tx K mg) : FnOk P w K mg base (L2.CX P w) 1 T.a_bare_area T.fd_bare_area ["p", "q", "r"] (Prm K T.M (args_bare_area T) dom_bare_area (out_bare_area T)) := by
  refine T.F_bare_area.okX sc_bare_area (fun vs H Q E h => by obtain ⟨a, F, _, al, _⟩ := h; exact al.length) (fun cdv A outer s H vs Q E hr h => ?_)
  have tk : Takes (cxOf (L2.CX P w) P w K mg base N_bare_area "bare_area" (defScope s_bare_area) T.a_bare_area cdv A outer s H E) (fun cls d _ H => E cls d H) := takes_of rfl rfl rfl rfl
  obtain ⟨a, F, fh, al, hd, th⟩ := h
  refine ⟨_, (pss_one (ps_ret (pe_op op_sub (pe_op op_mul (pe_op op_sub (pe_ix ix_tup (pv 1) pe_int (fun _ _ => rfl)) (pe_ix ix_tup (pv 0) pe_int (fun _ _ => rfl))) (pe_op op_sub (pe_ix ix_tup (pv 2) pe_int (fun _ _ => rfl)) (pe_ix ix_tup (pv 0) pe_int (fun _ _ => rfl)))) (pe_op op_mul (pe_op op_sub (pe_ix ix_tup (pv 1) pe_int (fun _ _ => rfl)) (pe_ix ix_tup (pv 0) pe_int (fun _ _ => rfl))) (pe_op op_sub (pe_ix ix_tup (pv 2) pe_int (fun _ _ => rfl)) (pe_ix ix_tup (pv 0) pe_int (fun _ _ => rfl))))))), ?_⟩
  obtain ⟨p, q, r⟩ := a
  obtain ⟨⟨hp1, hp2⟩, ⟨hq1, hq2⟩, hr1, hr2⟩ := hd
  simp only at hp1 hp2 hq1 hq2 hr1 hr2
  exact fin_ok (r := .rt _) (js_ret (je_sub (je_mul (je_sub (je_x0 (je_var rfl)) (je_x0 (je_var rfl))) (je_sub (je_y1 (je_var rfl)) (je_y1 (je_var rfl))) (near_mul (by first | omega | (dsimp only; omega)))) (je_mul (je_sub (je_y1 (je_var rfl)) (je_y1 (je_var rfl))) (je_sub (je_x0 (je_var rfl)) (je_x0 (je_var rfl))) (near_mul (by first | omega | (dsimp only; omega)))))) (by exact rfl) fh al th
end K11

namespace K11
open PySem PySem.Spec PyProof.Rows L2 Evl EB
/-! ### subset_list -/
def fb (x : List Int) : Int := match x.getLast? with
  | some k => k + 1
  | none => 0
def subsL (n : Int) : Nat → List (List Int)
  | 0 => [[]]
  | s + 1 => (subsL n s).flatMap fun x => (rg (fb x) (n - fb x).toNat).map fun k => x ++ [k]
def tupI (x : List Int) : PyData := .tuple (x.map .int)
def args_first_behind {K : PySem.W.Frag} {mg : Str → Option Value} (T : Tx K mg) : List Int → List PV := fun x => [dv K (tupI x)]
def dom_first_behind : List Int → Prop := fun _ => True
def out_first_behind {K : PySem.W.Frag} {mg : Str → Option Value} (T : Tx K mg) : List Int → Out := fun x => .ok (dv K (.int (fb x)))
theorem last_at (x : List Int) (k : Int) (h : x.getLast? = some k) : atI (x.map PyData.int) (-1) = some (.int k) := by
  have hx : x = x.dropLast ++ [k] := by
    have hne : x ≠ [] := fun z => by subst z; cases h
    rw [List.getLast?_eq_some_getLast hne] at h
    have := List.dropLast_concat_getLast hne
    rw [Option.some.inj h] at this
    exact this.symm
  rw [hx, List.map_append]
  exact atI_last _ _
theorem ok_first_behind {P : Program} {w : World} {K : PySem.W.Frag} {mg : Str → Option Value} {base : Heap} (T : Tx K mg) : FnOk P w K mg base (L2.CX P w) 1 T.a_first_behind T.fd_first_behind ["part"] (Prm K T.M (args_first_behind T) dom_first_behind (out_first_behind T)) := by
  refine T.F_first_behind.okX sc_first_behind (fun vs H Q E h => by obtain ⟨a, F, _, al, _⟩ := h; exact al.length) (fun cdv A outer s H vs Q E hr h => ?_)
  have tk : Takes (cxOf (L2.CX P w) P w K mg base N_first_behind "first_behind" (defScope s_first_behind) T.a_first_behind cdv A outer s H E) (fun cls d _ H => E cls d H) := takes_of rfl rfl rfl rfl
  obtain ⟨a, F, fh, al, hd, th⟩ := h
  refine ⟨_, (pss_one (ps_ret (pe_ifExp (pt_truth (pv 0) (by intro _; rfl)) (pe_op op_add (pe_ix ix_tup (pv 0) (pe_un un_neg pe_int) (fun _ _ => rfl)) pe_int) pe_int))), ?_⟩
  refine fin_ok (r := .rt (dv K (.int (fb a)))) (js_ret (je_if (jt_truT (ds := a.map .int) (je_var rfl)) (fun z => ?_) (fun z => ?_))) (by exact rfl) fh al th
  · cases hl : a.getLast? with
    | none =>
      rw [List.getLast?_eq_none_iff] at hl
      subst hl
      simp at z
    | some k =>
      rw [show fb a = k + 1 by unfold fb; rw [hl]]
      exact je_add (je_ixT (ds := a.map .int) (je_var rfl) (je_neg je_int) (last_at a k hl)) je_int
  · have e : a = [] := by
      cases a with
      | nil => rfl
      | cons x r => simp at z
    subst e
    exact je_int
def args_subset_list {K : PySem.W.Frag} {mg : Str → Option Value} (T : Tx K mg) : Nat × Nat → List PV := fun a => [dv K (.int a.1), dv K (.int a.2)]
def dom_subset_list : Nat × Nat → Prop := fun a => a.1 ≤ 10 ∧ a.2 ≤ 4
def out_subset_list {K : PySem.W.Frag} {mg : Str → Option Value} (T : Tx K mg) : Nat × Nat → Out := fun a => .ok (dv K (.list ((subsL a.1 a.2).map tupI)))
theorem subs_len {n : Int} : ∀ {s : Nat} {x : List Int}, x ∈ subsL n s → x.length = s
  | 0, x, h => by
    have e : x = [] := by simpa [subsL] using h
    subst e
    rfl
  | s + 1, x, h => by
    obtain ⟨y, hy, hx⟩ := List.mem_flatMap.mp h
    obtain ⟨k, _, e⟩ := List.mem_map.mp hx
    rw [← e, List.length_append, subs_len hy]
    rfl
theorem subs_small : ∀ n : Nat, n < 11 → ∀ s : Nat, s < 5 → ((subsL n s).length ≤ 300 ∧ (subsL n s).all (fun x => decide (0 ≤ fb x ∧ fb x ≤ n)) = true) := by decide +kernel
theorem subs_next (n : Int) (s : Nat) : ((subsL n s).flatMap fun x => ((rg (fb x) (n - fb x).toNat).filter fun _ => true).map fun k => tupI (x ++ [k])) = (subsL n (s + 1)).map tupI := by
  show _ = ((subsL n s).flatMap fun x => (rg (fb x) (n - fb x).toNat).map fun k => x ++ [k]).map tupI
  rw [List.map_flatMap]
  congr 1
  funext x
  rw [List.map_map, List.filter_eq_self.mpr (fun _ _ => rfl)]
  rfl
theorem ok_subset_list {P : Program} {w : World} {K : PySem.W.Frag} {mg : Str → Option Value} {base : Heap} (T : Tx K mg) : FnOk P w K mg base (L2.CX P w) 2 T.a_subset_list T.fd_subset_list ["n", "size"] (Prm K T.M (args_subset_list T) dom_subset_list (out_subset_list T)) := by
  refine T.F_subset_list.okX sc_subset_list (fun vs H Q E h => by obtain ⟨a, F, _, al, _⟩ := h; exact al.length) (fun cdv A outer s H vs Q E hr h => ?_)
  have tk : Takes (cxOf (L2.CX P w) P w K mg base N_subset_list "subset_list" (defScope s_subset_list) T.a_subset_list cdv A outer s H E) (fun cls d _ H => E cls d H) := takes_of rfl rfl rfl rfl
  obtain ⟨a, F, fh, al, hd, th⟩ := h
  refine ⟨_, (pss_cons (ps_set (i := 2) sc_subset_list.nd rfl (by first | exact Or.inl rfl | exact Or.inr rfl) (pe_lst (pa_cons (pe_tup pa_nil) pa_nil)))
      (pss_cons (ps_for (passes_of rfl) rfl (pi_range1 (by rfl) T.z_range (pa_cons (pv 1) pa_nil)) (pg_name (i := 3) sc_subset_list.nd rfl (by first | exact Or.inl rfl | exact Or.inr rfl)) (pss_one (ps_setLc2 (i := 2) (own := [("part", 4), ("k", 5)]) (g := (gName 4)) (tt := tYes) (te := (tTup (StX.tStar K (tVar 4) (tCons (tVar 5) tNil)))) (wi1 := (iRng2 (tCons (tCallS (Prm K T.M (args_first_behind T) dom_first_behind (out_first_behind T)) (WE fun _ _ _ _ => False) (tCons (tVar 4) tNil)) (tCons (tVar 0) tNil)))) (g1 := (gName 5)) (tt1 := tYes) (vs1 := [5]) rfl sc_subset_list.nd rfl rfl (sw_true rfl rfl rfl (by decide +kernel)) (pi_list (pv 2)) (blkOk_by (N := N_subset_list) (sc := defScope s_subset_list) (own := [("part", 4), ("k", 5)]) (by decide +kernel)) (by decide) (fun _ _ _ _ _ => (pg_name (i := 4) sc_subset_list.nd rfl (by first | exact Or.inl rfl | exact Or.inr rfl))) (fun _ _ _ _ _ => by exact pts_nil) (fun _ _ _ _ _ => by exact (pi_range2 (by rfl) T.z_range (pa_cons (pe_callS (ok_first_behind T) (hr.mono (by decide)) (by rfl) T.g_first_behind T.F_first_behind.kp (b_first_behind T) (fun σ => passAt takes0 σ) (pa_cons (pv 4) pa_nil)) (pa_cons (pv 0) pa_nil)))) (fun _ _ _ _ _ => (pg_name (i := 5) sc_subset_list.nd rfl (by first | exact Or.inl rfl | exact Or.inr rfl))) (fun _ _ _ _ _ => pts_nil) (fun _ _ _ _ _ => by exact (pe_tup (StX.pa_star (pv 4) (pa_cons (pv 5) pa_nil)))))))
      (pss_one (ps_ret (pv 2))))), ?_⟩
  obtain ⟨n, size⟩ := a
  obtain ⟨hn, hs⟩ := hd
  simp only at hn hs
  refine fin_ok (r := .rt (dv K (.list ((subsL n size).map tupI)))) (js_seq (js_set (P := dv K (.list ((subsL n 0).map tupI))) (je_lst (ds := [tupI []]) (ja_cons (je_tup (ds := []) ja_nil) ja_nil))) (js_seq
    (js_for (vs := [3]) (fun i => [some (dv K (.int n)), some (dv K (.int size)), some (dv K (.list ((subsL n i).map tupI))), none, none, none]) size (ji_is (ji_rng1 (ja_cons (je_var rfl) ja_nil) ⟨by omega, by omega⟩) (es := (rg 0 size).map PyData.int) (by simp)) rfl (by rw [List.length_map, rg_length]; exact Nat.le_refl _) (fun i d hi hd => ?_) (.inl ⟨by rw [List.length_map, rg_length], rfl⟩))
    (js_ret (je_var rfl)))) (by exact rfl) fh al th
  have hb := subs_small n (by omega) i (by omega)
  have hb2 := subs_small n (by omega) (i + 1) (by omega)
  refine ⟨_, jg_name, .inl (js_weak (js_set (P := dv K (.list ((subsL n (i + 1)).map tupI))) ?_) ⟨.inr rfl, .inr rfl, .inr rfl, .inl rfl, .inr rfl, .inr rfl, trivial⟩)⟩
  rw [← subs_next]
  refine je_lc2 (W' := fun _ _ _ _ => False) (subsL n i) (fun x => rg (fb x) ((n : Int) - fb x).toNat) tupI .int (fun _ _ => true) (fun x k => tupI (x ++ [k])) (ji_list (je_var rfl)) ?_ fun x hx => ?_
  · rw [subs_next, List.length_map]
    omega
  · have hx2 := of_decide_eq_true (List.all_eq_true.mp hb.2 x hx)
    refine ⟨_, jg_name, jt_yes, ji_rng2 (ja_cons (je_call x (ja_cons (je_var rfl) ja_nil) trivial) (ja_cons (je_var rfl) ja_nil)) ⟨by omega, by omega, by omega, by omega⟩, fun k hk => ⟨_, jg_name, jt_yes, fun _ => ?_⟩⟩
    refine je_tup (ds := (x ++ [k]).map .int) (ja_is (ja_starT (ds := x.map .int) (je_var rfl) (ja_cons (je_var rfl) ja_nil)) ?_) ?_
    · simp
    · have hx3 : x.length = i := subs_len hx
      rw [List.length_map, List.length_append]
      simp
      omega
theorem ji_enumQ {K : PySem.W.Frag} {M : EC → Addr} {W : WX} {ps : Kn} {te : TE} {b : Bool} {ds : List PyData} (h : JD K M W te ps (sq b ds)) : JI K M W (iEnumQ K (tCons te tNil)) ps (nb ds) := by
  cases b with
  | true => exact fun σ F H R fh S k => .inl (ji_enum h σ F H R fh S k)
  | false => exact fun σ F H R fh S k => .inr (ji_enumT h σ F H R fh S k)
theorem je_inQ {K : PySem.W.Frag} {M : EC → Addr} {W : WX} {ps : Kn} {ta tb : TE} {b : Bool} {i : Int} {ns : List Int} (ha : JD K M W ta ps (.int i)) (hb : JD K M W tb ps (sq b (ns.map .int))) : JD K M W (tOp (rIn K false) ta tb) ps (.bool (ns.contains i)) := by
  cases b with
  | true => exact je_inL ha hb
  | false => exact je_inT ha hb
theorem je_slQ {K : PySem.W.Frag} {M : EC → Addr} {W : WX} {ps : Kn} {te : TE} {tl th : TO} {lo hi : Option Int} {b : Bool} {ds : List PyData} (h : JD K M W te ps (sq b ds)) (h1 : JO K M W tl ps lo) (h2 : JO K M W th ps hi) : JD K M W (tSl (rSlQ K) te tl th) ps (sq b (cutD ds lo hi)) := by
  cases b with
  | true => exact je_slQL h h1 h2
  | false => exact je_slQT h h1 h2
/-! ### check_numbers, check_point, check_turns -/
/-- what the check says of the k-th number -/
def badNo (n : Int) (ns : List Int) (k : Nat) : Option Er := match ns[k]? with
  | none => none
  | some i => match isNo i n with
    | false => some ⟨.NoPoint, .int i⟩
    | true => match (ns.take k).contains i with
      | true => some ⟨.Repeated, .int i⟩
      | false => none
def badNos (n : Int) (ns : List Int) : Option Er := (List.range ns.length).findSome? (badNo n ns)
def outE (K : PySem.W.Frag) : Option Er → Out
  | none => .ok (dv K .none)
  | some e => .er e
def args_check_numbers {K : PySem.W.Frag} {mg : Str → Option Value} (T : Tx K mg) : Bool × List Int × Int → List PV := fun a => [dv K (sq a.1 (a.2.1.map .int)), dv K (.int a.2.2)]
def dom_check_numbers : Bool × List Int × Int → Prop := fun a => a.2.1.length ≤ 1000
def out_check_numbers {K : PySem.W.Frag} {mg : Str → Option Value} (T : Tx K mg) : Bool × List Int × Int → Out := fun a => outE K (badNos a.2.2 a.2.1)
theorem first_er {n : Nat} {c : Nat → Option Er} : (List.range n).findSome? (fun i => (c i).map Out.er) = ((List.range n).findSome? c).map Out.er := by
  induction n with
  | zero => rfl
  | succ n ih =>
    rw [List.range_succ, List.findSome?_append, List.findSome?_append, ih]
    cases (List.range n).findSome? c with
    | some e => rfl
    | none =>
      simp only [Option.map_none, Option.none_or, List.findSome?_cons, List.findSome?_nil]
      cases c n <;> rfl
/-- the end of a def that only checks -/
theorem fin_chk {K : PySem.W.Frag} {ps : Kn} : ∀ o : Option Er, Fin K (ends ps (o.map Out.er)) (outE K o)
  | none => rfl
  | some _ => rfl
theorem ok_check_numbers {P : Program} {w : World} {K : PySem.W.Frag} {mg : Str → Option Value} {base : Heap} (T : Tx K mg) : FnOk P w K mg base (L2.CX P w) 4 T.a_check_numbers T.fd_check_numbers ["numbers", "n"] (Prm K T.M (args_check_numbers T) dom_check_numbers (out_check_numbers T)) := by
  refine T.F_check_numbers.okX sc_check_numbers (fun vs H Q E h => by obtain ⟨a, F, _, al, _⟩ := h; exact al.length) (fun cdv A outer s H vs Q E hr h => ?_)
  have tk : Takes (cxOf (L2.CX P w) P w K mg base N_check_numbers "check_numbers" (defScope s_check_numbers) T.a_check_numbers cdv A outer s H E) (fun cls d _ H => E cls d H) := takes_of rfl rfl rfl rfl
  obtain ⟨a, F, fh, al, hd, th⟩ := h
  refine ⟨_, (pss_one (ps_for (passes_of rfl) rfl (pi_enumQ (by rfl) T.z_enumerate (pa_cons (pv 0) pa_nil)) (pg_tup rfl (pgs_cons (pg_name (i := 2) sc_check_numbers.nd rfl (by first | exact Or.inl rfl | exact Or.inr rfl)) (pgs_cons (pg_name (i := 3) sc_check_numbers.nd rfl (by first | exact Or.inl rfl | exact Or.inr rfl)) pgs_nil))) (pss_cons (ps_expr (pe_callS (ok_check_number T) (hr.mono (by decide)) (by rfl) T.g_check_number T.F_check_number.kp (b_check_number T) (fun σ => passAt tk σ) (pa_cons (pv 3) (pa_cons (pv 1) pa_nil))))
      (pss_one (ps_if (pt_cmpR op_in_seq (pv 3) (pe_slice (SlR.or sl_list sl_tupA) (pv 0) po_none (po_some (pv 2))) (by rfl)) (pss_one (ps_raise rfl tk (pmk_oex (T.X_Repeated).ox (T.X_Repeated).iC (T.X_Repeated).tI (ok_Repeated T) (hr.mono (by decide)) (b_Repeated T) .nil pass0 (by rfl) T.g_Repeated (pa_cons (pv 3) pa_nil)))) pss_nil))))), ?_⟩
  obtain ⟨sb, ns, n⟩ := a
  refine fin_ok (r := ends (entry N_check_numbers (args_check_numbers T (sb, ns, n))) ((badNos n ns).map Out.er)) ?_ (fin_chk _) fh al th
  unfold badNos
  rw [← first_er, show ns.length = (nb (ns.map PyData.int)).length by rw [nb_length, List.length_map]]
  refine js_search (vs := [2, 3]) (fun i => (badNo n ns i).map Out.er) (ji_enumQ (b := sb) (ds := ns.map .int) (je_var rfl)) fun i d hi => ?_
  have hl : i < ns.length := by
    have := (List.getElem?_eq_some_iff.mp hi).1
    rw [nb_length, List.length_map] at this
    exact this
  have hg : ns[i]? = some ns[i] := List.getElem?_eq_getElem hl
  rw [nb_get (d := .int ns[i]) (by rw [List.getElem?_map, hg]; rfl)] at hi
  cases hi
  refine ⟨_, jg_tup (jgs_cons jg_name (jgs_cons jg_name jgs_nil)), .inl ?_⟩
  have w : ∀ ps : Kn, ps = [some (dv K (sq sb (ns.map .int))), some (dv K (.int n)), some (dv K (.int (i : Nat))), some (dv K (.int ns[i]))] → Weak ps [some (dv K (sq sb (ns.map .int))), some (dv K (.int n)), none, none] := fun ps e => by
    subst e
    exact ⟨.inr rfl, .inr rfl, .inl rfl, .inl rfl, trivial⟩
  have hc := je_call (K := K) (M := T.M) (W := fun cls d _ H => E cls d H) (ps := [some (dv K (sq sb (ns.map .int))), some (dv K (.int n)), some (dv K (.int (i : Nat))), some (dv K (.int ns[i]))]) (args := args_check_number T) (dom := dom_check_number) (out := out_check_number T) (ns[i], n) (ja_cons (je_var (i := 3) rfl) (ja_cons (je_var (i := 1) rfl) ja_nil)) trivial
  unfold badNo
  rw [hg]
  dsimp only
  cases h1 : isNo ns[i] n with
  | false =>
    have e : out_check_number T (ns[i], n) = .er ⟨.NoPoint, .int ns[i]⟩ := by
      unfold out_check_number
      dsimp only
      rw [h1]
    rw [e] at hc
    exact js_er (js_drop hc)
  | true =>
    have e : out_check_number T (ns[i], n) = .ok (dv K .none) := by
      unfold out_check_number
      dsimp only
      rw [h1]
    rw [e] at hc
    dsimp only
    have hin := je_inQ (b := sb) (K := K) (M := T.M) (W := fun cls d _ H => E cls d H) (ps := [some (dv K (sq sb (ns.map .int))), some (dv K (.int n)), some (dv K (.int (i : Nat))), some (dv K (.int ns[i]))]) (ns := ns.take i) (je_var (i := 3) rfl) (je_is (je_slQ (b := sb) (ds := ns.map .int) (je_var (i := 0) rfl) jo_none (jo_some (je_var (i := 2) rfl))) (by rw [cutD_map]))
    cases h2 : (ns.take i).contains ns[i] with
    | true =>
      rw [h2] at hin
      exact js_seq (js_drop hc) (js_if (jt_test hin) (fun _ => js_raise (M := T.M) (c := .Repeated) (ja_cons (je_var rfl) ja_nil)) (fun z => Bool.noConfusion z))
    | false =>
      rw [h2] at hin
      exact js_seq (js_drop hc) (js_if (jt_test hin) (fun z => Bool.noConfusion z) (fun _ => js_weak js_next (w _ rfl)))
/-! ### check_point -/
def FAR : Int := 1000000
def badXY (p : Int × Int) : Option Er := match inR (-FAR) p.1 FAR with
  | false => some ⟨.TooFar, .int p.1⟩
  | true => match inR (-FAR) p.2 FAR with
    | false => some ⟨.TooFar, .int p.2⟩
    | true => none
def args_check_point {K : PySem.W.Frag} {mg : Str → Option Value} (T : Tx K mg) : Int × Int → List PV := fun a => [dv K (pD a)]
def dom_check_point : Int × Int → Prop := fun _ => True
def out_check_point {K : PySem.W.Frag} {mg : Str → Option Value} (T : Tx K mg) : Int × Int → Out := fun a => outE K (badXY a)
theorem je_FAR {K : PySem.W.Frag} {mg : Str → Option Value} (T : Tx K mg) {M : EC → Addr} {W : WX} {ps : Kn} : JD K M W (ClX.tCVal K (tC (.ref T.a_Floor)) "FAR") ps (.int FAR) := je_cval je_x T.cr_Floor T.cv_Floor_FAR fun _ => .int _
def tf (v : Int) : Option Er := match inR (-FAR) v FAR with
  | false => some ⟨.TooFar, .int v⟩
  | true => none
theorem badXY_eq (p : Int × Int) : badXY p = (List.range 2).findSome? (fun i => match i with | 0 => tf p.1 | _ => tf p.2) := by
  show badXY p = [0, 1].findSome? _
  unfold badXY
  simp only [List.findSome?_cons, List.findSome?_nil]
  unfold tf
  cases inR (-FAR) p.1 FAR <;> cases inR (-FAR) p.2 FAR <;> rfl
theorem ok_check_point {P : Program} {w : World} {K : PySem.W.Frag} {mg : Str → Option Value} {base : Heap} (T : Tx K mg) : FnOk P w K mg base (L2.CX P w) 4 T.a_check_point T.fd_check_point ["point"] (Prm K T.M (args_check_point T) dom_check_point (out_check_point T)) := by
  refine T.F_check_point.okX sc_check_point (fun vs H Q E h => by obtain ⟨a, F, _, al, _⟩ := h; exact al.length) (fun cdv A outer s H vs Q E hr h => ?_)
  have tk : Takes (cxOf (L2.CX P w) P w K mg base N_check_point "check_point" (defScope s_check_point) T.a_check_point cdv A outer s H E) (fun cls d _ H => E cls d H) := takes_of rfl rfl rfl rfl
  obtain ⟨a, F, fh, al, hd, th⟩ := h
  refine ⟨_, (pss_one (ps_for (passes_of rfl) rfl (pi_tup (pv 0)) (pg_name (i := 1) sc_check_point.nd rfl (by first | exact Or.inl rfl | exact Or.inr rfl)) (pss_one (ps_expr (pe_callS (ok_check_range T) (hr.mono (by decide)) (by rfl) T.g_check_range T.F_check_range.kp (b_check_range T) (fun σ => passAt tk σ) (pa_cons (pv 1) (pa_cons (pe_un un_neg (ClX.pe_cval (pe_glob (v := .ref T.a_Floor) (by rfl) T.g_Floor rfl))) (pa_cons (ClX.pe_cval (pe_glob (v := .ref T.a_Floor) (by rfl) T.g_Floor rfl)) pa_nil)))))))), ?_⟩
  refine fin_ok (r := ends (entry N_check_point (args_check_point T a)) ((badXY a).map Out.er)) ?_ (fin_chk _) fh al th
  rw [badXY_eq, ← first_er]
  refine js_search (vs := [1]) (ds := [.int a.1, .int a.2]) (fun i => ((match i with | 0 => tf a.1 | _ => tf a.2 : Option Er)).map Out.er) (ji_tup (je_var rfl)) fun i d hi => ?_
  have key : ∀ v : Int, JS K T.M (fun cls d _ H => E cls d H) (tDrop (tCallS (Prm K T.M (args_check_range T) dom_check_range (out_check_range T)) (WE fun cls d _ H => E cls d H) (tCons (tVar 1) (tCons (tUn (rU fun i => .int (-i)) (ClX.tCVal K (tC (.ref T.a_Floor)) "FAR")) (tCons (ClX.tCVal K (tC (.ref T.a_Floor)) "FAR") tNil))))) [some (dv K (pD a)), some (dv K (.int v))] (ends [some (dv K (pD a)), none] ((tf v).map Out.er)) := fun v => by
    have hc := je_call (K := K) (M := T.M) (W := fun cls d _ H => E cls d H) (ps := [some (dv K (pD a)), some (dv K (.int v))]) (args := args_check_range T) (dom := dom_check_range) (out := out_check_range T) (v, -FAR, FAR) (ja_cons (je_var (i := 1) rfl) (ja_cons (je_neg (je_FAR T)) (ja_cons (je_FAR T) ja_nil))) trivial
    cases h1 : inR (-FAR) v FAR with
    | false =>
      rw [show out_check_range T (v, -FAR, FAR) = .er ⟨.TooFar, .int v⟩ by unfold out_check_range; dsimp only; rw [h1]] at hc
      rw [show tf v = some ⟨.TooFar, .int v⟩ by unfold tf; rw [h1]]
      exact js_drop hc
    | true =>
      rw [show out_check_range T (v, -FAR, FAR) = .ok (dv K .none) by unfold out_check_range; dsimp only; rw [h1]] at hc
      rw [show tf v = none by unfold tf; rw [h1]]
      exact js_weak (js_drop hc) ⟨.inr rfl, .inl rfl, trivial⟩
  match i, hi with
  | 0, hi =>
    cases hi
    exact ⟨_, jg_name, .inl (key a.1)⟩
  | 1, hi =>
    cases hi
    exact ⟨_, jg_name, .inl (key a.2)⟩
end K11

namespace K11
open PySem PySem.Spec PyProof.Rows L2 Evl EB
/-! ### check_turns -/
def pt (pts : List (Int × Int)) (i : Int) : Int × Int := pts.getD i.toNat (0, 0)
def lineOf (pts : List (Int × Int)) (x : List Int) : Option Er := match x with
  | [a, b, c] => if area (pt pts a) (pt pts b) (pt pts c) = 0 then some ⟨.OnLine, tupI [a, b, c]⟩ else none
  | _ => none
def onLine (pts : List (Int × Int)) : Option Er := (subsL pts.length 3).findSome? (lineOf pts)
theorem subs3 : ∀ n : Nat, n < 11 → (subsL n 3).all (fun x => match x with
  | [a, b, c] => isNo a n && isNo b n && isNo c n
  | _ => false) = true := by decide +kernel
theorem first_ix {α β : Type} (f : α → Option β) (xs : List α) : (List.range xs.length).findSome? (fun i => xs[i]?.bind f) = xs.findSome? f := by
  induction xs with
  | nil => rfl
  | cons a r ih =>
    rw [List.length_cons, List.range_succ_eq_map, List.findSome?_cons, List.findSome?_map, List.findSome?_cons]
    have : ((fun i => (a :: r)[i]?.bind f) ∘ Nat.succ) = fun i => r[i]?.bind f := by
      funext i
      simp
    rw [this, ih]
    simp
theorem at_pt {pts : List (Int × Int)} {i : Int} (h : isNo i pts.length = true) : atI (pts.map pD) i = some (pD (pt pts i)) := by
  unfold isNo at h
  have h1 : 0 ≤ i := of_decide_eq_true (Bool.and_eq_true_iff.mp h).1
  have h2 : i < pts.length := of_decide_eq_true (Bool.and_eq_true_iff.mp h).2
  obtain ⟨j, rfl⟩ := Int.eq_ofNat_of_zero_le h1
  have h3 : j < pts.length := by omega
  refine atI_nat ?_
  rw [List.getElem?_map, List.getElem?_eq_getElem h3]
  unfold pt
  simp [h3]
theorem near_pt {pts : List (Int × Int)} (h : ∀ p ∈ pts, near p) (i : Int) : near (pt pts i) := by
  unfold pt
  by_cases hl : i.toNat < pts.length
  · rw [List.getD_eq_getElem?_getD, List.getElem?_eq_getElem hl]
    exact h _ (List.getElem_mem hl)
  · rw [List.getD_eq_getElem?_getD, List.getElem?_eq_none (by omega)]
    exact ⟨by decide, by decide⟩
theorem je_ixQ {K : PySem.W.Frag} {M : EC → Addr} {W : WX} {ps : Kn} {ta tb : TE} {b : Bool} {ds : List PyData} {i : Int} {d : PyData} (ha : JD K M W ta ps (sq b ds)) (hb : JD K M W tb ps (.int i)) (hi : atI ds i = some d) : JD K M W (tOp (rIx K) ta tb) ps d := by
  cases b with
  | true => exact je_ixQL ha hb hi
  | false => exact je_ixQT ha hb hi
def args_check_turns {K : PySem.W.Frag} {mg : Str → Option Value} (T : Tx K mg) : Bool × List (Int × Int) → List PV := fun a => [dv K (sq a.1 (a.2.map pD))]
def dom_check_turns : Bool × List (Int × Int) → Prop := fun a => a.2.length ≤ 10 ∧ ∀ p ∈ a.2, near p
def out_check_turns {K : PySem.W.Frag} {mg : Str → Option Value} (T : Tx K mg) : Bool × List (Int × Int) → Out := fun a => outE K (onLine a.2)
theorem ok_check_turns {P : Program} {w : World} {K : PySem.W.Frag} {mg : Str → Option Value} {base : Heap} (T : Tx K mg) : FnOk P w K mg base (L2.CX P w) 3 T.a_check_turns T.fd_check_turns ["points"] (Prm K T.M (args_check_turns T) dom_check_turns (out_check_turns T)) := by
  refine T.F_check_turns.okX sc_check_turns (fun vs H Q E h => by obtain ⟨a, F, _, al, _⟩ := h; exact al.length) (fun cdv A outer s H vs Q E hr h => ?_)
  have tk : Takes (cxOf (L2.CX P w) P w K mg base N_check_turns "check_turns" (defScope s_check_turns) T.a_check_turns cdv A outer s H E) (fun cls d _ H => E cls d H) := takes_of rfl rfl rfl rfl
  obtain ⟨a, F, fh, al, hd, th⟩ := h
  refine ⟨_, (pss_one (ps_for (passes_of rfl) rfl (pi_list (pe_callS (ok_subset_list T) (hr.mono (by decide)) (by rfl) T.g_subset_list T.F_subset_list.kp (b_subset_list T) (fun σ => passAt tk σ) (pa_cons (pe_callB call_len_seq (by rfl) T.z_len PySem.boot_len (pa_cons (pv 0) pa_nil)) (pa_cons pe_int pa_nil)))) (pg_tup rfl (pgs_cons (pg_name (i := 1) sc_check_turns.nd rfl (by first | exact Or.inl rfl | exact Or.inr rfl)) (pgs_cons (pg_name (i := 2) sc_check_turns.nd rfl (by first | exact Or.inl rfl | exact Or.inr rfl)) (pgs_cons (pg_name (i := 3) sc_check_turns.nd rfl (by first | exact Or.inl rfl | exact Or.inr rfl)) pgs_nil)))) (pss_one (ps_if (pt_cmpR op_eq (pe_callS (ok_bare_area T) (hr.mono (by decide)) (by rfl) T.g_bare_area T.F_bare_area.kp (b_bare_area T) (fun σ => passAt tk σ) (pa_cons (pe_ix ix_seq (pv 0) (pv 1) (fun _ _ => rfl)) (pa_cons (pe_ix ix_seq (pv 0) (pv 2) (fun _ _ => rfl)) (pa_cons (pe_ix ix_seq (pv 0) (pv 3) (fun _ _ => rfl)) pa_nil)))) pe_int (nomark _)) (pss_one (ps_raise rfl tk (pmk_oex (T.X_OnLine).ox (T.X_OnLine).iC (T.X_OnLine).tI (ok_OnLine T) (hr.mono (by decide)) (b_OnLine T) .nil pass0 (by rfl) T.g_OnLine (pa_cons (pe_tup (pa_cons (pv 1) (pa_cons (pv 2) (pa_cons (pv 3) pa_nil)))) pa_nil)))) pss_nil)))), ?_⟩
  obtain ⟨b, pts⟩ := a
  obtain ⟨hl, hnear⟩ := hd
  simp only at hl hnear
  refine fin_ok (r := ends (entry N_check_turns (args_check_turns T (b, pts))) ((onLine pts).map Out.er)) ?_ (fin_chk _) fh al th
  unfold onLine
  rw [← first_ix, ← first_er, show (subsL pts.length 3).length = ((subsL (pts.length : Nat) 3).map tupI).length by rw [List.length_map]]
  have hcall := je_call (K := K) (M := T.M) (W := fun cls d _ H => E cls d H) (ps := entry N_check_turns (args_check_turns T (b, pts))) (args := args_subset_list T) (dom := dom_subset_list) (out := out_subset_list T) (pts.length, 3) (ja_cons (je_is (je_lenQ (je_var (i := 0) rfl)) (by rw [List.length_map])) (ja_cons je_int ja_nil)) ⟨hl, (show (3:Nat) ≤ 4 by decide)⟩
  refine js_search (vs := [1, 2, 3]) (fun i => (((subsL pts.length 3)[i]?).bind (lineOf pts)).map Out.er) (ji_list hcall) fun i d hi => ?_
  have hlt : i < (subsL pts.length 3).length := by
    have := (List.getElem?_eq_some_iff.mp hi).1
    rw [List.length_map] at this
    exact this
  rw [List.getElem?_map, List.getElem?_eq_getElem hlt] at hi
  cases hi
  have hx := List.all_eq_true.mp (subs3 pts.length (by omega)) _ (List.getElem_mem hlt)
  rw [List.getElem?_eq_getElem hlt]
  generalize (subsL pts.length 3)[i] = x at hx
  match x, hx with
  | [u, v, z], hx =>
    simp only [Bool.and_eq_true] at hx
    obtain ⟨⟨h1, h2⟩, h3⟩ := hx
    refine ⟨_, jg_tup (ds := [.int u, .int v, .int z]) (jgs_cons jg_name (jgs_cons jg_name (jgs_cons jg_name jgs_nil))), .inl ?_⟩
    have hb := je_call (K := K) (M := T.M) (W := fun cls d _ H => E cls d H) (ps := [some (dv K (sq b (pts.map pD))), some (dv K (.int u)), some (dv K (.int v)), some (dv K (.int z))]) (args := args_bare_area T) (dom := dom_bare_area) (out := out_bare_area T) (pt pts u, pt pts v, pt pts z)
      (ja_cons (je_ixQ (je_var (i := 0) rfl) (je_var (i := 1) rfl) (at_pt h1)) (ja_cons (je_ixQ (je_var (i := 0) rfl) (je_var (i := 2) rfl) (at_pt h2)) (ja_cons (je_ixQ (je_var (i := 0) rfl) (je_var (i := 3) rfl) (at_pt h3)) ja_nil))) ⟨near_pt hnear _, near_pt hnear _, near_pt hnear _⟩
    show JS K T.M _ _ _ (ends _ ((lineOf pts [u, v, z]).map Out.er))
    by_cases h0 : area (pt pts u) (pt pts v) (pt pts z) = 0
    · rw [show lineOf pts [u, v, z] = some ⟨.OnLine, tupI [u, v, z]⟩ from if_pos h0]
      exact js_if (b := true) (jt_is (jt_test (je_eqI hb je_int)) (decide_eq_true h0)) (fun _ => js_raise (M := T.M) (c := .OnLine) (ja_cons (je_tup (ds := [.int u, .int v, .int z]) (ja_cons (je_var rfl) (ja_cons (je_var rfl) (ja_cons (je_var rfl) ja_nil)))) ja_nil)) (fun q => Bool.noConfusion q)
    · rw [show lineOf pts [u, v, z] = none from if_neg h0]
      exact js_if (b := false) (jt_is (jt_test (je_eqI hb je_int)) (decide_eq_false h0)) (fun q => Bool.noConfusion q) (fun _ => js_weak js_next ⟨.inr rfl, .inl rfl, .inl rfl, .inl rfl, trivial⟩)
/-! ### Floor(points) -/
def badPts (pts : List (Int × Int)) : Option Er := pts.findSome? badXY
def floorE (pts : List (Int × Int)) : Option Er := match inR 3 pts.length 10 with
  | false => some ⟨.WrongCount, .int pts.length⟩
  | true => match badPts pts with
    | some e => some e
    | none => onLine pts
def args_Floor___init__ {K : PySem.W.Frag} {mg : Str → Option Value} (T : Tx K mg) : Bool × List (Int × Int) → List PV := fun a => [dv K (sq a.1 (a.2.map pD))]
def dom_Floor___init__ : Bool × List (Int × Int) → Prop := fun a => a.1 = true
def out_Floor___init__ : Bool × List (Int × Int) → Except Er PyData := fun a => match floorE a.2 with
  | none => .ok (.tuple (a.2.map pD))
  | some e => .error e
theorem near_of {pts : List (Int × Int)} (h : badPts pts = none) : ∀ p ∈ pts, near p := fun p hp => by
  have := List.findSome?_eq_none_iff.mp h p hp
  unfold badXY at this
  cases h1 : inR (-FAR) p.1 FAR with
  | false => rw [h1] at this; cases this
  | true =>
    rw [h1] at this
    cases h2 : inR (-FAR) p.2 FAR with
    | false => rw [h2] at this; cases this
    | true =>
      unfold inR FAR at h1 h2
      simp only [Bool.and_eq_true, decide_eq_true_eq] at h1 h2
      exact ⟨by omega, by omega⟩
end K11

namespace K11
open PySem PySem.Spec PyProof.Rows L2 Evl EB
theorem js_pre3 {K : PySem.W.Frag} {M : EC → Addr} {W : WX} {A B C L : TS} {ps : Kn} {r : Res} {D : Ends} {σ : L2.St} {F H : Hp} (h : JS K M W (tSeq A (tSeq B C)) ps r) (fh : Ex F H) (S : Sl F σ ps) (k : Wsh K M W ps.length { D with nx := L D } F H r) : tSeq A (tSeq B (tSeq C L)) D σ H := h _ σ F H fh S k
theorem js_out {K : PySem.W.Frag} {M : EC → Addr} {W : WX} {ps : Kn} {te : TE} {o : Option Er} (h : JE K M W te ps (outE K o)) : JS K M W (tDrop te) ps (ends ps (o.map Out.er)) := by
  cases o with
  | none => exact js_drop h
  | some e => exact js_drop h
theorem js_seqE {K : PySem.W.Frag} {M : EC → Addr} {W : WX} {ps : Kn} {ts tu : TS} {o o2 : Option Er} (h : JS K M W ts ps (ends ps (o.map Out.er))) (h2 : o = none → JS K M W tu ps (ends ps (o2.map Out.er))) : JS K M W (tSeq ts tu) ps (ends ps ((o.or o2).map Out.er)) := by
  cases o with
  | none => exact js_seq h (h2 rfl)
  | some e => exact js_er h
theorem floorE_eq (pts : List (Int × Int)) : floorE pts = ((if inR 3 pts.length 10 then none else some ⟨.WrongCount, .int pts.length⟩ : Option Er).or ((badPts pts).or (onLine pts))) := by
  unfold floorE
  cases inR 3 pts.length 10 with
  | false => rfl
  | true => cases badPts pts <;> rfl
theorem ok_Floor___init__ {P : Program} {w : World} {K : PySem.W.Frag} {mg : Str → Option Value} {base : Heap} (T : Tx K mg) : FnOk P w K mg base (L2.CX P w) 5 T.a_Floor___init__ T.fd_Floor___init__ ["self", "points"] (spMake K T.M T.a_Floor "points" (args_Floor___init__ T) dom_Floor___init__ out_Floor___init__) := by
  refine T.F_Floor___init__.okX sc_Floor___init__ (fun vs H Q E h => by obtain ⟨a, F, x, dx, us, rfl, _, _, _, al, _⟩ := h; exact congrArg (· + 1) al.length) (fun cdv A outer s H vs Q E hr h => ?_)
  have tk : Takes (cxOf (L2.CX P w) P w K mg base N_Floor___init__ "Floor.__init__" (defScope s_Floor___init__) T.a_Floor___init__ cdv A outer s H E) (fun cls d _ H => E cls d H) := takes_of rfl rfl rfl rfl
  obtain ⟨a, F, x, dx, us, rfl, fh, hx, fx, al, hd, th⟩ := h
  refine ⟨_, (pss_cons (ps_expr (pe_callS (ok_check_count T) (hr.mono (by decide)) (by rfl) T.g_check_count T.F_check_count.kp (b_check_count T) (fun σ => passAt tk σ) (pa_cons (pv 1) (pa_cons (ClX.pe_cval (pe_glob (v := .ref T.a_Floor) (by rfl) T.g_Floor rfl)) (pa_cons (ClX.pe_cval (pe_glob (v := .ref T.a_Floor) (by rfl) T.g_Floor rfl)) pa_nil)))))
      (pss_cons (ps_for (passes_of rfl) rfl (pi_list (pv 1)) (pg_name (i := 2) sc_Floor___init__.nd rfl (by first | exact Or.inl rfl | exact Or.inr rfl)) (pss_one (ps_expr (pe_callS (ok_check_point T) (hr.mono (by decide)) (by rfl) T.g_check_point T.F_check_point.kp (b_check_point T) (fun σ => passAt tk σ) (pa_cons (pv 2) pa_nil)))))
      (pss_cons (ps_expr (pe_callS (ok_check_turns T) (hr.mono (by decide)) (by rfl) T.g_check_turns T.F_check_turns.kp (b_check_turns T) (fun σ => passAt tk σ) (pa_cons (pv 1) pa_nil)))
      (pss_one (ps_fld (pv 0) (pe_callTy call_tuple_of (by rfl) T.z_tuple PyProof.Rows.boot_tuple (pa_cons (pv 1) pa_nil)) rfl))))), ?_⟩
  obtain ⟨b, pts⟩ := a
  simp only [dom_Floor___init__] at hd
  subst hd
  have S0 : Sl F (L2.start N_Floor___init__ (.ref x :: us)) (entry N_Floor___init__ (xv (.ref x) :: args_Floor___init__ T (true, pts))) := Sl.start (.cons rfl al)
  have c1 := je_call (K := K) (M := T.M) (W := fun cls d _ H => E cls d H) (ps := entry N_Floor___init__ (xv (.ref x) :: args_Floor___init__ T (true, pts))) (args := args_check_count T) (dom := dom_check_count) (out := out_check_count T) (true, pts.map pD, 3, 10) (ja_cons (je_var (i := 1) rfl) (ja_cons (je_cval je_x T.cr_Floor T.cv_Floor_LEAST fun _ => .int _) (ja_cons (je_cval je_x T.cr_Floor T.cv_Floor_MOST fun _ => .int _) ja_nil))) trivial
  have e1 : out_check_count T (true, pts.map pD, 3, 10) = outE K (if inR 3 pts.length 10 then none else some ⟨.WrongCount, .int pts.length⟩) := by
    unfold out_check_count
    dsimp only
    rw [List.length_map]
    cases inR 3 pts.length 10 <;> rfl
  rw [e1] at c1
  refine js_pre3 (K := K) (r := ends (entry N_Floor___init__ (xv (.ref x) :: args_Floor___init__ T (true, pts))) ((floorE pts).map Out.er)) (M := T.M) (W := fun cls d _ H => E cls d H) ?_ fh S0 ?_
  · rw [floorE_eq]
    refine js_seqE (js_out c1) fun h1 => js_seqE ?_ fun h2 => ?_
    · unfold badPts
      rw [← first_ix, ← first_er, show pts.length = (pts.map pD).length by rw [List.length_map]]
      refine js_search (vs := [2]) (fun i => ((pts[i]?).bind badXY).map Out.er) (ji_list (je_var (i := 1) rfl)) fun i d hi => ?_
      have hlt : i < pts.length := by
        have := (List.getElem?_eq_some_iff.mp hi).1
        rw [List.length_map] at this
        exact this
      rw [List.getElem?_map, List.getElem?_eq_getElem hlt] at hi
      cases hi
      rw [List.getElem?_eq_getElem hlt]
      refine ⟨_, jg_name, .inl ?_⟩
      have hc := je_call (K := K) (M := T.M) (W := fun cls d _ H => E cls d H) (ps := [some (xv (.ref x)), some (dv K (.list (pts.map pD))), some (dv K (pD pts[i]))]) (args := args_check_point T) (dom := dom_check_point) (out := out_check_point T) pts[i] (ja_cons (je_var (i := 2) rfl) ja_nil) trivial
      have hj := js_out hc
      show JS K T.M _ _ _ (ends _ ((badXY pts[i]).map Out.er))
      cases hb : badXY pts[i] with
      | none =>
        rw [hb] at hj
        exact js_weak hj ⟨.inr rfl, .inr rfl, .inl rfl, trivial⟩
      | some e =>
        rw [hb] at hj
        exact hj
    · have hl : inR 3 pts.length 10 = true := by
        cases q : inR 3 pts.length 10 with
        | true => rfl
        | false => rw [q] at h1; cases h1
      unfold inR at hl
      simp only [Bool.and_eq_true, decide_eq_true_eq] at hl
      exact js_out (je_call (args := args_check_turns T) (dom := dom_check_turns) (out := out_check_turns T) (true, pts) (ja_cons (je_var (i := 1) rfl) ja_nil) ⟨(by have := hl.2; show pts.length ≤ 10; omega), near_of h2⟩)
  · unfold out_Floor___init__ at th
    dsimp only at th
    cases hf : floorE pts with
    | some e =>
      rw [hf] at th
      exact fun d u σ' F' H' g hn hd2 dp _ => th d u F' H' g hn hd2 dp
    | none =>
      rw [hf] at th
      intro σ' F' H' g S'
      dsimp only
      unfold L2.sFld
      refine JE.go (K := K) (M := T.M) (W := fun cls d _ H => E cls d H) (je_tupL (je_var (i := 1) rfl)) g.fh S' fun y F1 H1 g1 p => ?_
      obtain ⟨v, hv, hxv⟩ := (S'.mono g1.ff).2 0 _ rfl
      cases hxv
      have hx1 : H1 x = some (.ins T.a_Floor dx []) := g1.hh _ _ (g.hh _ _ hx)
      have f0 : F' x = none := g.nw x (by rw [hx]; exact fun z => nomatch z) fx
      have f1 : F1 x = none := g1.nw x (by rw [g.hh _ _ hx]; exact fun z => nomatch z) f0
      exact ⟨.ref x, hv, x, T.a_Floor, dx, [], rfl, hx1, T.C_Floor, T.n_Floor_points, by decide, th F1 H1 y (g.trans g1) p f1⟩
end K11

namespace K11
open PySem PySem.Spec PyProof.Rows L2 Evl EB
def outV (K : PySem.W.Frag) (o : Option Er) (d : PyData) : Out := match o with
  | none => .ok (dv K d)
  | some e => .er e
theorem two_eq (a b : Option Er) : a.or b = (List.range 2).findSome? (fun i => match i with | 0 => a | _ => b) := by
  show _ = [0, 1].findSome? _
  simp only [List.findSome?_cons, List.findSome?_nil]
  cases a <;> cases b <;> rfl
theorem three_eq (a b c : Option Er) : a.or (b.or c) = (List.range 3).findSome? (fun i => match i with | 0 => a | 1 => b | _ => c) := by
  show _ = [0, 1, 2].findSome? _
  simp only [List.findSome?_cons, List.findSome?_nil]
  cases a <;> cases b <;> cases c <;> rfl
theorem js_ends {K : PySem.W.Frag} {M : EC → Addr} {W : WX} {ts : TS} {ps rs qs : Kn} {o : Option Er} (h : JS K M W ts ps (ends rs (o.map Out.er))) (w : Weak rs qs) : JS K M W ts ps (ends qs (o.map Out.er)) := by
  cases o with
  | none => exact js_weak h w
  | some e => exact h
/-- a def that checks, then answers -/
theorem fin_then {K : PySem.W.Frag} {M : EC → Addr} {W : WX} {ts tu : TS} {ps : Kn} {o : Option Er} {d : PyData} (h : JS K M W ts ps (ends ps (o.map Out.er))) (h2 : o = none → JS K M W tu ps (.rt (dv K d))) : ∃ r, JS K M W (tSeq ts tu) ps r ∧ Fin K r (outV K o d) := by
  cases o with
  | none => exact ⟨_, js_seq h (h2 rfl), rfl⟩
  | some e => exact ⟨_, js_er h, rfl⟩
/-! ### area, turn -/
def args_Floor_area {K : PySem.W.Frag} {mg : Str → Option Value} (T : Tx K mg) : List (Int × Int) × Int × Int × Int → List PV := fun a => [ob1 K T.a_Floor "points" (.tuple (a.1.map pD)), dv K (.int a.2.1), dv K (.int a.2.2.1), dv K (.int a.2.2.2)]
def dom_Floor_area : List (Int × Int) × Int × Int × Int → Prop := fun a => a.1.length ≤ 10 ∧ ∀ p ∈ a.1, near p
def ar (pts : List (Int × Int)) (a b c : Int) : Int := area (pt pts a) (pt pts b) (pt pts c)
def out_Floor_area {K : PySem.W.Frag} {mg : Str → Option Value} (T : Tx K mg) : List (Int × Int) × Int × Int × Int → Out := fun a => outV K (badNos a.1.length [a.2.1, a.2.2.1, a.2.2.2]) (.int (ar a.1 a.2.1 a.2.2.1 a.2.2.2))
theorem no3 {n : Int} {a b c : Int} (h : badNos n [a, b, c] = none) : isNo a n = true ∧ isNo b n = true ∧ isNo c n = true := by
  have key : ∀ k i, k < 3 → [a, b, c][k]? = some i → isNo i n = true := fun k i hk hi => by
    have := List.findSome?_eq_none_iff.mp h k (List.mem_range.mpr hk)
    unfold badNo at this
    rw [hi] at this
    dsimp only at this
    cases h1 : isNo i n with
    | true => rfl
    | false => rw [h1] at this; cases this
  exact ⟨key 0 a (by decide) rfl, key 1 b (by decide) rfl, key 2 c (by decide) rfl⟩
theorem je_call_er {K : PySem.W.Frag} {M : EC → Addr} {W : WX} {ps : Kn} {te : TE} {tr : TA} {e : Er} {sp : Sp} (h : JE K M W te ps (.er e)) : JE K M W (tCallS sp (WE W) (tCons te tr)) ps (.er e) := fun σ F H Q fh S k => h σ F H _ fh S k
def args_Floor_turn {K : PySem.W.Frag} {mg : Str → Option Value} (T : Tx K mg) : List (Int × Int) × Int × Int × Int → List PV := args_Floor_area T
def dom_Floor_turn : List (Int × Int) × Int × Int × Int → Prop := dom_Floor_area
def out_Floor_turn {K : PySem.W.Frag} {mg : Str → Option Value} (T : Tx K mg) : List (Int × Int) × Int × Int × Int → Out := fun a => outV K (badNos a.1.length [a.2.1, a.2.2.1, a.2.2.2]) (.int (sgn (ar a.1 a.2.1 a.2.2.1 a.2.2.2)))
end K11

namespace K11
open PySem PySem.Spec PyProof.Rows L2 Evl EB
/-! ### cell, area, whole -/
def cell (ns : List Int) (i : Nat) : Int := match ns[i]? with
  | some v => if v < 0 then -v else v
  | none => 0
def intsD (ns : List Int) : List PyData := ns.map .int
def args__law_cell {K : PySem.W.Frag} {mg : Str → Option Value} (T : Tx K mg) : List Int × Nat → List PV := fun a => [dv K (.list (intsD a.1)), dv K (.int a.2)]
def dom__law_cell : List Int × Nat → Prop := fun _ => True
def out__law_cell {K : PySem.W.Frag} {mg : Str → Option Value} (T : Tx K mg) : List Int × Nat → Out := fun a => .ok (dv K (.int (cell a.1 a.2)))
theorem ok__law_cell {P : Program} {w : World} {K : PySem.W.Frag} {mg : Str → Option Value} {base : Heap} (T : Tx K mg) : FnOk P w K mg base (L2.CX P w) 1 T.a__law_cell T.fd__law_cell ["cells", "place"] (Prm K T.M (args__law_cell T) dom__law_cell (out__law_cell T)) := by
  refine T.F__law_cell.okX sc__law_cell (fun vs H Q E h => by obtain ⟨a, F, _, al, _⟩ := h; exact al.length) (fun cdv A outer s H vs Q E hr h => ?_)
  have tk : Takes (cxOf (L2.CX P w) P w K mg base N__law_cell "_law_cell" (defScope s__law_cell) T.a__law_cell cdv A outer s H E) (fun cls d _ H => E cls d H) := takes_of rfl rfl rfl rfl
  obtain ⟨a, F, fh, al, hd, th⟩ := h
  refine ⟨_, (pss_cons (ps_if (pt_cmpR op_lt (pv 1) (pe_callB call_len_seq (by rfl) T.z_len PySem.boot_len (pa_cons (pv 0) pa_nil)) (nomark _)) (pss_one (ps_ret (pe_callB call_abs (by rfl) T.z_abs (by decide +kernel) (pa_cons (pe_ix ix_list (pv 0) (pv 1) (fun _ _ => rfl)) pa_nil)))) pss_nil)
      (pss_one (ps_ret pe_int))), ?_⟩
  obtain ⟨ns, i⟩ := a
  by_cases h : i < ns.length
  · refine fin_ok (r := .rt (dv K (.int (cell ns i)))) (js_rt (js_if (b := true) (jt_is (jt_test (je_lt (je_var (i := 1) rfl) (je_lenL (je_var (i := 0) rfl)))) ?_) (fun _ => js_ret ?_) (fun z => Bool.noConfusion z))) (by exact rfl) fh al th
    · unfold intsD
      rw [List.length_map]
      exact decide_eq_true (by dsimp only; omega)
    · have e : cell ns i = if ns[i] < 0 then -ns[i] else ns[i] := by
        unfold cell
        rw [List.getElem?_eq_getElem h]
      rw [e]
      refine je_abs (je_ixL (je_var (i := 0) rfl) (je_var (i := 1) rfl) (atI_nat ?_))
      unfold intsD
      rw [List.getElem?_map, List.getElem?_eq_getElem h]
      rfl
  · refine fin_ok (r := .rt (dv K (.int (cell ns i)))) (js_seq (js_if (b := false) (jt_is (jt_test (je_lt (je_var (i := 1) rfl) (je_lenL (je_var (i := 0) rfl)))) ?_) (fun z => Bool.noConfusion z) (fun _ => js_next)) (js_ret ?_)) (by exact rfl) fh al th
    · unfold intsD
      rw [List.length_map]
      exact decide_eq_false (by dsimp only; omega)
    · rw [show cell ns i = 0 by unfold cell; rw [List.getElem?_eq_none (by omega)]]
      exact je_int
theorem area_eq (p q r : Int × Int) : p.1 * q.2 - q.1 * p.2 + (q.1 * r.2 - r.1 * q.2) + (r.1 * p.2 - p.1 * r.2) = area p q r := by
  unfold area
  grind
def args__law_area {K : PySem.W.Frag} {mg : Str → Option Value} (T : Tx K mg) : (Int × Int) × (Int × Int) × (Int × Int) → List PV := args_bare_area T
def dom__law_area : (Int × Int) × (Int × Int) × (Int × Int) → Prop := dom_bare_area
def out__law_area {K : PySem.W.Frag} {mg : Str → Option Value} (T : Tx K mg) : (Int × Int) × (Int × Int) × (Int × Int) → Out := out_bare_area T
theorem ok__law_area {P : Program} {w : World} {K : PySem.W.Frag} {mg : Str → Option Value} {base : Heap} (T : Tx K mg) : FnOk P w K mg base (L2.CX P w) 1 T.a__law_area T.fd__law_area ["p", "q", "r"] (Prm K T.M (args__law_area T) dom__law_area (out__law_area T)) := by
  refine T.F__law_area.okX sc__law_area (fun vs H Q E h => by obtain ⟨a, F, _, al, _⟩ := h; exact al.length) (fun cdv A outer s H vs Q E hr h => ?_)
  have tk : Takes (cxOf (L2.CX P w) P w K mg base N__law_area "_law_area" (defScope s__law_area) T.a__law_area cdv A outer s H E) (fun cls d _ H => E cls d H) := takes_of rfl rfl rfl rfl
  obtain ⟨a, F, fh, al, hd, th⟩ := h
  refine ⟨_, (pss_cons (ps_set (i := 3) sc__law_area.nd rfl (by first | exact Or.inl rfl | exact Or.inr rfl) (pe_op op_sub (pe_op op_mul (pe_ix ix_tup (pv 0) pe_int (fun _ _ => rfl)) (pe_ix ix_tup (pv 1) pe_int (fun _ _ => rfl))) (pe_op op_mul (pe_ix ix_tup (pv 1) pe_int (fun _ _ => rfl)) (pe_ix ix_tup (pv 0) pe_int (fun _ _ => rfl)))))
      (pss_cons (ps_set (i := 4) sc__law_area.nd rfl (by first | exact Or.inl rfl | exact Or.inr rfl) (pe_op op_sub (pe_op op_mul (pe_ix ix_tup (pv 1) pe_int (fun _ _ => rfl)) (pe_ix ix_tup (pv 2) pe_int (fun _ _ => rfl))) (pe_op op_mul (pe_ix ix_tup (pv 2) pe_int (fun _ _ => rfl)) (pe_ix ix_tup (pv 1) pe_int (fun _ _ => rfl)))))
      (pss_cons (ps_set (i := 5) sc__law_area.nd rfl (by first | exact Or.inl rfl | exact Or.inr rfl) (pe_op op_sub (pe_op op_mul (pe_ix ix_tup (pv 2) pe_int (fun _ _ => rfl)) (pe_ix ix_tup (pv 0) pe_int (fun _ _ => rfl))) (pe_op op_mul (pe_ix ix_tup (pv 0) pe_int (fun _ _ => rfl)) (pe_ix ix_tup (pv 2) pe_int (fun _ _ => rfl)))))
      (pss_one (ps_ret (pe_op op_add (pe_op op_add (pv 3) (pv 4)) (pv 5))))))), ?_⟩
  obtain ⟨p, q, r⟩ := a
  obtain ⟨⟨hp1, hp2⟩, ⟨hq1, hq2⟩, hr1, hr2⟩ := hd
  simp only at hp1 hp2 hq1 hq2 hr1 hr2
  have e : out__law_area T (p, q, r) = .ok (dv K (.int (p.1 * q.2 - q.1 * p.2 + (q.1 * r.2 - r.1 * q.2) + (r.1 * p.2 - p.1 * r.2)))) := by
    rw [area_eq] <;> rfl
  rw [e] at th
  refine fin_ok (r := .rt (dv K (.int (p.1 * q.2 - q.1 * p.2 + (q.1 * r.2 - r.1 * q.2) + (r.1 * p.2 - p.1 * r.2))))) (js_seq (js_set (je_sub (je_mul (je_x0 (je_var (i := 0) rfl)) (je_y1 (je_var (i := 1) rfl)) (near_mul (by dsimp only; omega))) (je_mul (je_x0 (je_var (i := 1) rfl)) (je_y1 (je_var (i := 0) rfl)) (near_mul (by dsimp only; omega)))))
    (js_seq (js_set (je_sub (je_mul (je_x0 (je_var (i := 1) rfl)) (je_y1 (je_var (i := 2) rfl)) (near_mul (by dsimp only; omega))) (je_mul (je_x0 (je_var (i := 2) rfl)) (je_y1 (je_var (i := 1) rfl)) (near_mul (by dsimp only; omega)))))
    (js_seq (js_set (je_sub (je_mul (je_x0 (je_var (i := 2) rfl)) (je_y1 (je_var (i := 0) rfl)) (near_mul (by dsimp only; omega))) (je_mul (je_x0 (je_var (i := 0) rfl)) (je_y1 (je_var (i := 2) rfl)) (near_mul (by dsimp only; omega)))))
    (js_ret (je_add (je_add (je_var (i := 3) rfl) (je_var (i := 4) rfl)) (je_var (i := 5) rfl)))))) (by exact rfl) fh al th
theorem first_map {α β γ : Type} (f : β → γ) (c : α → Option β) : ∀ l : List α, l.findSome? (fun i => (c i).map f) = (l.findSome? c).map f
  | [] => rfl
  | x :: l => by
    rw [List.findSome?_cons, List.findSome?_cons, first_map f c l]
    cases c x <;> rfl
def nmE : EC → Str
  | .WrongCount => "WrongCount"
  | .TooFar => "TooFar"
  | .NoPoint => "NoPoint"
  | .Repeated => "Repeated"
  | .OnLine => "OnLine"
  | .NoSize => "NoSize"
  | .WrongRow => "WrongRow"
  | .WrongLine => "WrongLine"
  | .OnPlane => "OnPlane"
  | .Within => "Within"
  | _ => ""
def raisedD (e : Er) : PyData := .tuple [.str "raised", .str (nmE e.c), e.val, .bool true]
def orE (o : Option Er) (d : PyData) : PyData := match o with
  | some e => raisedD e
  | none => d
theorem isNo_not (i n : Int) : (decide (i < 0) || decide (n ≤ i)) = !isNo i n := by
  unfold isNo
  by_cases h1 : i < 0
  · have h2 : ¬ 0 ≤ i := by omega
    simp [h1, h2]
  · have h2 : 0 ≤ i := by omega
    by_cases h3 : n ≤ i
    · have h4 : ¬ i < n := by omega
      simp [h1, h2, h3, h4]
    · have h4 : i < n := by omega
      simp [h1, h2, h3, h4]
theorem sgn_eq (v : Int) : (if decide (0 < v) = true then (1 : Int) else 0) - (if decide (v < 0) = true then 1 else 0) = sgn v := by
  unfold sgn
  by_cases h1 : v > 0
  · have h2 : ¬ v < 0 := by omega
    have h3 : 0 < v := h1
    simp [h2, h3]
  · have h3 : ¬ 0 < v := h1
    by_cases h2 : v < 0
    · simp [h2, h3]
    · simp [h2, h3]
/-- a clause's suite: it tells the error, and of which classes it is -/
abbrev suT (K : PySem.W.Frag) (B C C2 C3 : Addr) (nm f : Str) (i j : Nat) : Addr → Value → Option Addr → TS := fun a cls d =>
  tSeq (tAsg (tAndV (tCB (rIsEx K a cls d) (tCons (tVar i) (tCons (tC (.ref B)) tNil))) (tCB (rIsEx K a cls d) (tCons (tVar i) (tCons (tC (.ty "ValueError")) tNil)))) (gName j))
    (tRet (tTup (tCons (tC (.str "raised")) (tCons (tC (.str nm)) (tCons (tXf a cls d C f (tVar i)) (tCons (tAndV (tVar j) (tNotV (tCB (rIsExT K a cls d) (tCons (tVar i) (tCons (tTup (tCons (tC (.ref C2)) (tCons (tC (.ref C3)) tNil))) tNil))))) tNil))))))
theorem suite_std {K : PySem.W.Frag} {M : EC → Addr} {W : WX} {n i j : Nat} {c : EC} {d : PyData} {B C2 C3 : Addr} (hi : i < n) (hj : j < n) (hij : i ≠ j) (X : ExK K (M c)) (h1 : PySem.W.kitOne K (.ref (M c)) (.ref B) = some true) (h2 : PySem.W.kitOne K (.ref (M c)) (.type "ValueError") = some true) (h3 : PySem.W.kitAny K (.ref (M c)) [.ref C2, .ref C3] = some false) :
    Suite K M W n i (suT K B (M c) C2 C3 (nmE c) c.fld i j) ⟨c, d⟩ (dv K (raisedD ⟨c, d⟩)) := fun a dd => by
  have v1 : ((List.replicate n (none : Option PV)).set i (some (exv K a dd c.fld d)))[i]? = some (some (exv K a dd c.fld d)) := List.getElem?_set_self (by rw [List.length_replicate]; exact hi)
  have v2 : (((List.replicate n (none : Option PV)).set i (some (exv K a dd c.fld d))).set j (some (dv K (.bool true))))[i]? = some (some (exv K a dd c.fld d)) := by rw [List.getElem?_set_ne (fun z => hij z.symm)]; exact v1
  have v3 : (((List.replicate n (none : Option PV)).set i (some (exv K a dd c.fld d))).set j (some (dv K (.bool true))))[j]? = some (some (dv K (.bool true))) := List.getElem?_set_self (by rw [List.length_set, List.length_replicate]; exact hj)
  refine js_seq (js_set (P := dv K (.bool true)) (je_andV (a := true) (b := true) (je_isEx (je_var v1) X (.own B) h1) (fun _ => je_isEx (je_var v1) X (.ty "ValueError") h2)))
    (js_ret (je_tup (ds := [.str "raised", .str (nmE c), d, .bool true]) (ja_cons je_str (ja_cons je_str (ja_cons (je_xf (je_var v2)) (ja_cons (je_andV (a := true) (b := true) (je_var v3) (fun _ => je_notV (a := false) (je_isExT2 (je_var v2) X h3))) ja_nil))))))
def asgR (ps : Kn) (i : Nat) : Out → Res
  | .ok P => .nx (ps.set i (some P))
  | .er e => .er e
theorem js_setO {K : PySem.W.Frag} {M : EC → Addr} {W : WX} {ps : Kn} {te : TE} {i : Nat} {o : Out} (h : JE K M W te ps o) : JS K M W (tAsg te (gName i)) ps (asgR ps i o) := by
  cases o with
  | ok P => exact js_set h
  | er e => exact js_set_er h
theorem ok4 {n : Nat} {a b c d : PyData} (ha : Ok a n) (hb : Ok b n) (hc : Ok c n) (hd : Ok d n) : Ok (.tuple [a, b, c, d]) (n + 1) := ok_tup fun x hx => by
  simp only [List.mem_cons, List.not_mem_nil, or_false] at hx
  rcases hx with rfl | rfl | rfl | rfl
  · exact ha
  · exact hb
  · exact hc
  · exact hd
theorem ok_raised {e : Er} {n : Nat} (h : Ok e.val n) : Ok (raisedD e) (n + 1) := ok4 (ok_str (by decide +kernel)) (ok_str (by cases e.c <;> decide +kernel)) h ok_bl
theorem first_none {α : Type} {n : Nat} : (List.range n).findSome? (fun _ => (none : Option α)) = none := List.findSome?_eq_none_iff.mpr fun _ _ => rfl
/-- a loop that is never left -/
theorem js_all {K : PySem.W.Frag} {M : EC → Addr} {W : WX} {ps : Kn} {vs : List Nat} {wi : TI} {g : TG} {ds : List PyData} {tb : TS} (hi : JI K M W wi ps ds)
    (hs : ∀ (i : Nat) (d : PyData), ds[i]? = some d → ∃ qs, JG vs g ps (dv K d) qs ∧ JS K M W tb qs (.nx ps)) : JS K M W (tFor wi g tb) ps (.nx ps) := by
  have := js_search (M := M) (W := W) (g := g) (tb := tb) (vs := vs) (fun _ => none) hi fun (i : Nat) (d : PyData) (h : ds[i]? = some d) => by
    obtain ⟨qs, hg, hb⟩ := hs i d h
    exact ⟨qs, hg, .inl hb⟩
  rw [first_none] at this
  exact this
end K11

namespace K11
open PySem PySem.Spec PyProof.Rows L2 Evl EB
theorem rg_int {n i : Nat} {d : PyData} (h : ((rg 0 n).map PyData.int)[i]? = some d) : i < n ∧ d = .int (i : Nat) := by
  have hl := (List.getElem?_eq_some_iff.mp h).1
  rw [List.length_map, rg_length] at hl
  rw [List.getElem?_map, rg_get hl] at h
  cases h
  exact ⟨hl, by simp⟩
theorem nat_pt {pts : List (Int × Int)} {i : Nat} (h : i < pts.length) : atI (pts.map pD) (i : Int) = some (pD (pt pts i)) := at_pt (by
  unfold isNo
  simp
  omega)
/-! ### made, refusal -/
def flD (pts : List (Int × Int)) : PyData := .tuple [.str "floor", .str "", .tuple (pts.map pD), .bool true]
def refD (pts : List (Int × Int)) : PyData := orE (floorE pts) (flD pts)
theorem badXY_c {p : Int × Int} {e : Er} (h : badXY p = some e) : ∃ v, e = ⟨.TooFar, .int v⟩ := by
  unfold badXY at h
  cases h1 : inR (-FAR) p.1 FAR with
  | false => rw [h1] at h; cases h; exact ⟨_, rfl⟩
  | true =>
    rw [h1] at h
    cases h2 : inR (-FAR) p.2 FAR with
    | false => rw [h2] at h; cases h; exact ⟨_, rfl⟩
    | true => rw [h2] at h; cases h
theorem onLine_c {pts : List (Int × Int)} {e : Er} (h : onLine pts = some e) : ∃ xs, e = ⟨.OnLine, tupI xs⟩ := by
  obtain ⟨x, _, hx⟩ := List.exists_of_findSome?_eq_some h
  unfold lineOf at hx
  match x, hx with
  | [a, b, c], hx =>
    dsimp only at hx
    by_cases h0 : area (pt pts a) (pt pts b) (pt pts c) = 0
    · rw [if_pos h0] at hx
      cases hx
      exact ⟨_, rfl⟩
    · rw [if_neg h0] at hx
      cases hx
theorem floorE_c {pts : List (Int × Int)} {e : Er} (h : floorE pts = some e) : (∃ v, e = ⟨.WrongCount, .int v⟩) ∨ (∃ v, e = ⟨.TooFar, .int v⟩) ∨ ∃ xs, e = ⟨.OnLine, tupI xs⟩ := by
  unfold floorE at h
  cases h1 : inR 3 pts.length 10 with
  | false => rw [h1] at h; cases h; exact .inl ⟨_, rfl⟩
  | true =>
    rw [h1] at h
    cases h2 : badPts pts with
    | some e2 =>
      rw [h2] at h
      cases h
      obtain ⟨p, _, hp⟩ := List.exists_of_findSome?_eq_some h2
      exact .inr (.inl (badXY_c hp))
    | none =>
      rw [h2] at h
      exact .inr (.inr (onLine_c h))
theorem ok_pD {n : Nat} (p : Int × Int) : Ok (pD p) (n + 1) := ok_tup (ds := [p.1, p.2].map .int) (ok_ints _)
theorem ok_pts {n : Nat} (pts : List (Int × Int)) : ∀ d ∈ pts.map pD, Ok d (n + 1) := fun d hd => by
  obtain ⟨p, _, rfl⟩ := List.mem_map.mp hd
  exact ok_pD p
theorem ok_ref (pts : List (Int × Int)) : Ok (refD pts) 3 := by
  unfold refD
  cases h : floorE pts with
  | none => exact ok4 (ok_str (by decide +kernel)) (ok_str (by decide +kernel)) (ok_tup (n := 1) (ok_pts (n := 0) pts)) ok_bl
  | some e =>
    rcases floorE_c h with ⟨v, rfl⟩ | ⟨v, rfl⟩ | ⟨xs, rfl⟩
    · exact ok_raised (n := 2) ok_int
    · exact ok_raised (n := 2) ok_int
    · exact ok_raised (n := 2) (ok_tup (n := 1) (ok_ints xs))
def args__law_made {K : PySem.W.Frag} {mg : Str → Option Value} (T : Tx K mg) : List (Int × Int) → List PV := fun a => [dv K (.list (a.map pD))]
def dom__law_made : List (Int × Int) → Prop := fun _ => True
def out__law_made {K : PySem.W.Frag} {mg : Str → Option Value} (T : Tx K mg) : List (Int × Int) → Out := fun a => .ok (dv K (refD a))
def outO (K : PySem.W.Frag) (C : Addr) (o : Option Er) (d : PyData) : Out := match o with
  | none => .ok (ob1 K C "points" d)
  | some e => .er e
abbrev tbMade {K : PySem.W.Frag} {mg : Str → Option Value} (T : Tx K mg) : WX → TS := fun W => tAsg (tMakeS T.a_Floor (spMake K T.M T.a_Floor "points" (args_Floor___init__ T) dom_Floor___init__ out_Floor___init__) (WE W) (tCons (tVar 0) tNil)) (gName 1)
theorem mk_floor {K : PySem.W.Frag} {mg : Str → Option Value} (T : Tx K mg) {W : WX} {ps : Kn} {tr : TA} {pts : List (Int × Int)} (h : JA K T.M W tr ps [dv K (.list (pts.map pD))]) : JE K T.M W (tMakeS T.a_Floor (spMake K T.M T.a_Floor "points" (args_Floor___init__ T) dom_Floor___init__ out_Floor___init__) (WE W) tr) ps (outO K T.a_Floor (floorE pts) (.tuple (pts.map pD))) := by
  have := je_make (args := args_Floor___init__ T) (dom := dom_Floor___init__) (out := out_Floor___init__) (C := T.a_Floor) (f := "points") (true, pts) h rfl
  have e : mkOut K T.a_Floor "points" (out_Floor___init__ (true, pts)) = outO K T.a_Floor (floorE pts) (.tuple (pts.map pD)) := by
    unfold out_Floor___init__
    cases floorE pts <;> rfl
  rw [← e]
  exact this
theorem ok__law_made {P : Program} {w : World} {K : PySem.W.Frag} {mg : Str → Option Value} {base : Heap} (T : Tx K mg) : FnOk P w K mg base (L2.CX P w) 7 T.a__law_made T.fd__law_made ["points"] (Prm K T.M (args__law_made T) dom__law_made (out__law_made T)) := by
  refine T.F__law_made.okX sc__law_made (fun vs H Q E h => by obtain ⟨a, F, _, al, _⟩ := h; exact al.length) (fun cdv A outer s H vs Q E hr h => ?_)
  have tk : Takes (cxOf (L2.CX P w) P w K mg base N__law_made "_law_made" (defScope s__law_made) T.a__law_made cdv A outer s H E) (fun cls d _ H => E cls d H) := takes_of rfl rfl rfl rfl
  obtain ⟨a, F, fh, al, hd, th⟩ := h
  refine ⟨_, (pss_cons (ps_try_named (tb := fun W => _) rfl rfl sc__law_made.nd tk (fun W pn xe tkb pob => (pss_one (ps_set (i := 1) sc__law_made.nd rfl (by first | exact Or.inl rfl | exact Or.inr rfl) (pe_makeS T.M_Floor (ok_Floor___init__ T) (hr.mono (by decide)) (by rfl) T.g_Floor (b_Floor___init__ T) (fun σ => passAt tkb σ) (pa_cons (pv 0) pa_nil))))) (Clauses.cons (c := .ref T.a_WrongCount) (i := 2) ⟨rfl, by decide, .inl T.g_WrongCount⟩ rfl rfl (fun a ob cls d pn hz hf => (pss_cons (ps_set (i := 3) sc__law_made.nd rfl (by first | exact Or.inl rfl | exact Or.inr rfl) (pe_and (pe_callB (call_isEx hz hf) (by rfl) T.z_isinstance PyProof.Rows.boot_isinstance (pa_cons (pv 2) (pa_cons (pe_glob (v := .ref T.a_BowlError) (by rfl) T.g_BowlError rfl) pa_nil))) (pe_one (pe_callB (call_isEx hz hf) (by rfl) T.z_isinstance PyProof.Rows.boot_isinstance (pa_cons (pv 2) (pa_cons (pe_bltn (v := .ty "ValueError") (by rfl) T.z_ValueError PyProof.Rows.Boot.«ValueError» rfl) pa_nil))))))
      (pss_one (ps_ret (pe_tup (pa_cons pe_str (pa_cons pe_str (pa_cons (pe_xf (T.X_WrongCount).xf (T.X_WrongCount).nf hz hf (pv 2)) (pa_cons (pe_and (pv 3) (pe_one (pe_not (pe_callB (call_isExT hz hf) (by rfl) T.z_isinstance PyProof.Rows.boot_isinstance (pa_cons (pv 2) (pa_cons (pe_tup (pa_cons (pe_glob (v := .ref T.a_OnLine) (by rfl) T.g_OnLine rfl) (pa_cons (pe_glob (v := .ref T.a_TooFar) (by rfl) T.g_TooFar rfl) pa_nil))) pa_nil)))))) pa_nil))))))))) (Clauses.cons (c := .ref T.a_TooFar) (i := 2) ⟨rfl, by decide, .inl T.g_TooFar⟩ rfl rfl (fun a ob cls d pn hz hf => (pss_cons (ps_set (i := 3) sc__law_made.nd rfl (by first | exact Or.inl rfl | exact Or.inr rfl) (pe_and (pe_callB (call_isEx hz hf) (by rfl) T.z_isinstance PyProof.Rows.boot_isinstance (pa_cons (pv 2) (pa_cons (pe_glob (v := .ref T.a_BowlError) (by rfl) T.g_BowlError rfl) pa_nil))) (pe_one (pe_callB (call_isEx hz hf) (by rfl) T.z_isinstance PyProof.Rows.boot_isinstance (pa_cons (pv 2) (pa_cons (pe_bltn (v := .ty "ValueError") (by rfl) T.z_ValueError PyProof.Rows.Boot.«ValueError» rfl) pa_nil))))))
      (pss_one (ps_ret (pe_tup (pa_cons pe_str (pa_cons pe_str (pa_cons (pe_xf (T.X_TooFar).xf (T.X_TooFar).nf hz hf (pv 2)) (pa_cons (pe_and (pv 3) (pe_one (pe_not (pe_callB (call_isExT hz hf) (by rfl) T.z_isinstance PyProof.Rows.boot_isinstance (pa_cons (pv 2) (pa_cons (pe_tup (pa_cons (pe_glob (v := .ref T.a_OnLine) (by rfl) T.g_OnLine rfl) (pa_cons (pe_glob (v := .ref T.a_WrongCount) (by rfl) T.g_WrongCount rfl) pa_nil))) pa_nil)))))) pa_nil))))))))) (Clauses.cons (c := .ref T.a_OnLine) (i := 2) ⟨rfl, by decide, .inl T.g_OnLine⟩ rfl rfl (fun a ob cls d pn hz hf => (pss_cons (ps_set (i := 3) sc__law_made.nd rfl (by first | exact Or.inl rfl | exact Or.inr rfl) (pe_and (pe_callB (call_isEx hz hf) (by rfl) T.z_isinstance PyProof.Rows.boot_isinstance (pa_cons (pv 2) (pa_cons (pe_glob (v := .ref T.a_BowlError) (by rfl) T.g_BowlError rfl) pa_nil))) (pe_one (pe_callB (call_isEx hz hf) (by rfl) T.z_isinstance PyProof.Rows.boot_isinstance (pa_cons (pv 2) (pa_cons (pe_bltn (v := .ty "ValueError") (by rfl) T.z_ValueError PyProof.Rows.Boot.«ValueError» rfl) pa_nil))))))
      (pss_one (ps_ret (pe_tup (pa_cons pe_str (pa_cons pe_str (pa_cons (pe_xf (T.X_OnLine).xf (T.X_OnLine).nf hz hf (pv 2)) (pa_cons (pe_and (pv 3) (pe_one (pe_not (pe_callB (call_isExT hz hf) (by rfl) T.z_isinstance PyProof.Rows.boot_isinstance (pa_cons (pv 2) (pa_cons (pe_tup (pa_cons (pe_glob (v := .ref T.a_TooFar) (by rfl) T.g_TooFar rfl) (pa_cons (pe_glob (v := .ref T.a_WrongCount) (by rfl) T.g_WrongCount rfl) pa_nil))) pa_nil)))))) pa_nil))))))))) Clauses.nil))))
      (pss_one (ps_ret (pe_tup (pa_cons pe_str (pa_cons pe_str (pa_cons (pe_fld (pv 1) rfl) (pa_cons (pe_callB call_isi (by rfl) T.z_isinstance PyProof.Rows.boot_isinstance (pa_cons (pv 1) (pa_cons (pe_glob (v := .ref T.a_Floor) (by rfl) T.g_Floor rfl) pa_nil))) pa_nil)))))))), ?_⟩
  have hb : ∀ W' : WX, JS K T.M W' (tbMade T W') (entry N__law_made (args__law_made T a)) (asgR (entry N__law_made (args__law_made T a)) 1 (outO K T.a_Floor (floorE a) (.tuple (a.map pD)))) := fun W' => js_setO (mk_floor T (ja_cons (je_var (i := 0) rfl) ja_nil))
  have ho : out__law_made T a = .ok (dv K (orE (floorE a) (flD a))) := rfl
  rw [ho] at th
  cases hq : floorE a with
  | some e =>
    rw [hq] at hb th
    refine fin_ok (r := .rt (dv K (raisedD e))) (js_rt (js_try_er (tb := tbMade T) hb ?_)) (by exact rfl) fh al th
    rcases floorE_c hq with ⟨v, rfl⟩ | ⟨v, rfl⟩ | ⟨xs, rfl⟩
    · exact .inl ⟨T.x_WrongCount_WrongCount, suite_std (c := .WrongCount) (show 2 < 4 by decide) (show 3 < 4 by decide) (by decide) T.X_WrongCount.ek T.k_WrongCount_BowlError T.k_WrongCount_ValueError T.k_WrongCount_OnLine_TooFar⟩
    · exact .inr ⟨T.x_TooFar_WrongCount, .inl ⟨T.x_TooFar_TooFar, suite_std (c := .TooFar) (show 2 < 4 by decide) (show 3 < 4 by decide) (by decide) T.X_TooFar.ek T.k_TooFar_BowlError T.k_TooFar_ValueError T.k_TooFar_OnLine_WrongCount⟩⟩
    · exact .inr ⟨T.x_OnLine_WrongCount, .inr ⟨T.x_OnLine_TooFar, .inl ⟨T.x_OnLine_OnLine, suite_std (c := .OnLine) (show 2 < 4 by decide) (show 3 < 4 by decide) (by decide) T.X_OnLine.ek T.k_OnLine_BowlError T.k_OnLine_ValueError T.k_OnLine_TooFar_WrongCount⟩⟩⟩
  | none =>
    rw [hq] at hb th
    exact fin_ok (r := .rt (dv K (flD a))) (js_seq (js_try_ok (tb := tbMade T) (r := .nx ((entry N__law_made (args__law_made T a)).set 1 (some (ob1 K T.a_Floor "points" (.tuple (a.map pD)))))) hb (fun _ q => nomatch q))
      (js_ret (je_tup (ds := [.str "floor", .str "", .tuple (a.map pD), .bool true]) (ja_cons je_str (ja_cons je_str (ja_cons (je_fld (C := T.a_Floor) (je_var (i := 1) rfl) T.C_Floor T.n_Floor_points) (ja_cons (je_isOb (je_var (i := 1) rfl) T.C_Floor T.ca_Floor T.gn T.tkc T.mo_Floor T.ki_Floor) ja_nil))))))) (by exact rfl) fh al th
def args__law_refusal {K : PySem.W.Frag} {mg : Str → Option Value} (T : Tx K mg) : List (Int × Int) → List PV := args__law_made T
def dom__law_refusal : List (Int × Int) → Prop := fun a => ∀ p ∈ a, near p
def out__law_refusal {K : PySem.W.Frag} {mg : Str → Option Value} (T : Tx K mg) : List (Int × Int) → Out := out__law_made T
theorem js_endsO {K : PySem.W.Frag} {M : EC → Addr} {W : WX} {ts : TS} {ps rs qs : Kn} {o : Option Out} (h : JS K M W ts ps (ends rs o)) (w : Weak rs qs) : JS K M W ts ps (ends qs o) := by
  cases o with
  | none => exact js_weak h w
  | some e => exact h
/-- a loop over L that is left at the first x with f x -/
theorem js_first {K : PySem.W.Frag} {M : EC → Addr} {W : WX} {ps : Kn} {vs : List Nat} {wi : TI} {g : TG} {tb : TS} {α β : Type} (L : List α) (enc : α → PyData) (f : α → Option β) (h : β → Out) (hi : JI K M W wi ps (L.map enc))
    (hs : ∀ x ∈ L, ∃ qs, JG vs g ps (dv K (enc x)) qs ∧ JS K M W tb qs (ends ps ((f x).map h))) : JS K M W (tFor wi g tb) ps (ends ps ((L.findSome? f).map h)) := by
  have key := js_search (M := M) (W := W) (g := g) (tb := tb) (vs := vs) (fun i => (L[i]?.bind f).map h) hi fun (i : Nat) (d : PyData) (hd : (L.map enc)[i]? = some d) => by
    have hlt : i < L.length := by
      have := (List.getElem?_eq_some_iff.mp hd).1
      rw [List.length_map] at this
      exact this
    rw [List.getElem?_map, List.getElem?_eq_getElem hlt] at hd
    cases hd
    obtain ⟨qs, hg, hb⟩ := hs L[i] (List.getElem_mem hlt)
    refine ⟨qs, hg, .inl ?_⟩
    show JS K M W tb qs (ends ps ((L[i]?.bind f).map h))
    rw [List.getElem?_eq_getElem hlt]
    exact hb
  rw [List.length_map, first_map, first_ix] at key
  exact key
theorem rg_mem {lo x : Int} {m : Nat} (h : x ∈ rg lo m) : lo ≤ x ∧ x < lo + m := by
  unfold rg at h
  obtain ⟨i, hi, rfl⟩ := List.mem_map.mp h
  have := List.mem_range.mp hi
  omega
theorem first_flat {α β γ : Type} (g : α → List β) (f : β → Option γ) : ∀ L : List α, (L.flatMap g).findSome? f = L.findSome? fun x => (g x).findSome? f
  | [] => rfl
  | x :: r => by
    rw [List.flatMap_cons, List.findSome?_append, List.findSome?_cons, first_flat g f r]
    cases (g x).findSome? f <;> rfl
abbrev beh (a : Int) (n : Nat) : List Int := rg (a + 1) ((n : Int) - (a + 1)).toNat
theorem subs3_eq : ∀ n : Nat, n < 11 → subsL n 3 = (rg 0 n).flatMap fun a => (beh a n).flatMap fun b => (beh b n).map fun c => [a, b, c] := by decide +kernel
theorem onLine_eq {pts : List (Int × Int)} (hl : pts.length ≤ 10) : onLine pts = (rg 0 pts.length).findSome? fun a => (beh a pts.length).findSome? fun b => (beh b pts.length).findSome? fun c => lineOf pts [a, b, c] := by
  unfold onLine
  rw [subs3_eq _ (by omega), first_flat]
  congr 1
  funext a
  rw [first_flat]
  congr 1
  funext b
  rw [List.findSome?_map]
  rfl
theorem badXY_two (p : Int × Int) : badXY p = [p.1, p.2].findSome? tf := by
  unfold badXY tf
  simp only [List.findSome?_cons, List.findSome?_nil]
  cases inR (-FAR) p.1 FAR <;> cases inR (-FAR) p.2 FAR <;> rfl
theorem far_not (v : Int) : decide (1000000 < if v < 0 then -v else v) = !inR (-FAR) v FAR := by
  unfold inR FAR
  by_cases h0 : v < 0
  · rw [if_pos h0]
    have h1 : v ≤ 1000000 := by omega
    by_cases h2 : -1000000 ≤ v
    · have h3 : ¬ 1000000 < -v := by omega
      simp [h1, h2, h3]
    · have h3 : 1000000 < -v := by omega
      simp [h2, h3]
  · rw [if_neg h0]
    have h1 : -1000000 ≤ v := by omega
    by_cases h2 : v ≤ 1000000
    · have h3 : ¬ 1000000 < v := by omega
      simp [h1, h2, h3]
    · have h3 : 1000000 < v := by omega
      simp [h2, h3]
theorem cnt_not (n : Nat) : (decide ((n : Int) < 3) || decide (10 < (n : Int))) = !inR 3 n 10 := by
  unfold inR
  by_cases h1 : (n : Int) < 3
  · have h2 : ¬ 3 ≤ (n : Int) := by omega
    simp [h1, h2]
  · have h2 : 3 ≤ (n : Int) := by omega
    by_cases h3 : 10 < (n : Int)
    · have h4 : ¬ (n : Int) ≤ 10 := by omega
      simp [h1, h2, h3, h4]
    · have h4 : (n : Int) ≤ 10 := by omega
      simp [h1, h2, h3, h4]
def tell (K : PySem.W.Frag) (e : Er) : Out := .ok (dv K (raisedD e))
theorem ok__law_refusal {P : Program} {w : World} {K : PySem.W.Frag} {mg : Str → Option Value} {base : Heap} (T : Tx K mg) : FnOk P w K mg base (L2.CX P w) 2 T.a__law_refusal T.fd__law_refusal ["points"] (Prm K T.M (args__law_refusal T) dom__law_refusal (out__law_refusal T)) := by
  refine T.F__law_refusal.okX sc__law_refusal (fun vs H Q E h => by obtain ⟨a, F, _, al, _⟩ := h; exact al.length) (fun cdv A outer s H vs Q E hr h => ?_)
  have tk : Takes (cxOf (L2.CX P w) P w K mg base N__law_refusal "_law_refusal" (defScope s__law_refusal) T.a__law_refusal cdv A outer s H E) (fun cls d _ H => E cls d H) := takes_of rfl rfl rfl rfl
  obtain ⟨a, F, fh, al, hd, th⟩ := h
  refine ⟨_, (pss_cons (ps_if (PW.pt (pw_or (pt_cmpR op_lt (pe_callB call_len_seq (by rfl) T.z_len PySem.boot_len (pa_cons (pv 0) pa_nil)) pe_int (nomark _)) (pw_or1 (pt_cmpR op_gt (pe_callB call_len_seq (by rfl) T.z_len PySem.boot_len (pa_cons (pv 0) pa_nil)) pe_int (nomark _))))) (pss_one (ps_ret (pe_tup (pa_cons pe_str (pa_cons pe_str (pa_cons (pe_callB call_len_seq (by rfl) T.z_len PySem.boot_len (pa_cons (pv 0) pa_nil)) (pa_cons pe_bl pa_nil))))))) pss_nil)
      (pss_cons (ps_for (passes_of rfl) rfl (pi_list (pv 0)) (pg_name (i := 1) sc__law_refusal.nd rfl (by first | exact Or.inl rfl | exact Or.inr rfl)) (pss_one (ps_for (passes_of rfl) rfl (pi_tup (pv 1)) (pg_name (i := 2) sc__law_refusal.nd rfl (by first | exact Or.inl rfl | exact Or.inr rfl)) (pss_one (ps_if (pt_cmpR op_gt (pe_callB call_abs (by rfl) T.z_abs (by decide +kernel) (pa_cons (pv 2) pa_nil)) pe_int (nomark _)) (pss_one (ps_ret (pe_tup (pa_cons pe_str (pa_cons pe_str (pa_cons (pv 2) (pa_cons pe_bl pa_nil))))))) pss_nil)))))
      (pss_cons (ps_for (passes_of rfl) rfl (pi_range1 (by rfl) T.z_range (pa_cons (pe_callB call_len_seq (by rfl) T.z_len PySem.boot_len (pa_cons (pv 0) pa_nil)) pa_nil)) (pg_name (i := 3) sc__law_refusal.nd rfl (by first | exact Or.inl rfl | exact Or.inr rfl)) (pss_one (ps_for (passes_of rfl) rfl (pi_range2 (by rfl) T.z_range (pa_cons (pe_op op_add (pv 3) pe_int) (pa_cons (pe_callB call_len_seq (by rfl) T.z_len PySem.boot_len (pa_cons (pv 0) pa_nil)) pa_nil))) (pg_name (i := 4) sc__law_refusal.nd rfl (by first | exact Or.inl rfl | exact Or.inr rfl)) (pss_one (ps_for (passes_of rfl) rfl (pi_range2 (by rfl) T.z_range (pa_cons (pe_op op_add (pv 4) pe_int) (pa_cons (pe_callB call_len_seq (by rfl) T.z_len PySem.boot_len (pa_cons (pv 0) pa_nil)) pa_nil))) (pg_name (i := 5) sc__law_refusal.nd rfl (by first | exact Or.inl rfl | exact Or.inr rfl)) (pss_one (ps_if (pt_cmpR op_eq (pe_callS (ok__law_area T) (hr.mono (by decide)) (by rfl) T.g__law_area T.F__law_area.kp (b__law_area T) (fun σ => passAt tk σ) (pa_cons (pe_ix ix_list (pv 0) (pv 3) (fun _ _ => rfl)) (pa_cons (pe_ix ix_list (pv 0) (pv 4) (fun _ _ => rfl)) (pa_cons (pe_ix ix_list (pv 0) (pv 5) (fun _ _ => rfl)) pa_nil)))) pe_int (nomark _)) (pss_one (ps_ret (pe_tup (pa_cons pe_str (pa_cons pe_str (pa_cons (pe_tup (pa_cons (pv 3) (pa_cons (pv 4) (pa_cons (pv 5) pa_nil)))) (pa_cons pe_bl pa_nil))))))) pss_nil)))))))
      (pss_one (ps_ret (pe_tup (pa_cons pe_str (pa_cons pe_str (pa_cons (pe_callTy call_tuple_of (by rfl) T.z_tuple PyProof.Rows.boot_tuple (pa_cons (pv 0) pa_nil)) (pa_cons pe_bl pa_nil)))))))))), ?_⟩
  let W0 : WX := fun cls d _ H => E cls d H
  let ps0 : Kn := [some (dv K (.list (a.map pD))), none, none, none, none, none]
  have ho : out__law_refusal T a = .ok (dv K (orE (floorE a) (flD a))) := rfl
  rw [ho] at th
  have len : ∀ ps : Kn, ps[0]? = some (some (dv K (.list (a.map pD)))) → JD K T.M W0 (tCB (rLenS K) (tCons (tVar 0) tNil)) ps (.int a.length) := fun ps h => je_is (je_lenL (je_var (ps := ps) (i := 0) h)) (by rw [List.length_map])
  have t1 := jt_or (jt_test (je_lt (len ps0 rfl) (je_int (i := 3)))) (fun _ => jt_test (je_gt (len ps0 rfl) (je_int (i := 10))))
  rw [cnt_not] at t1
  cases h1 : inR 3 a.length 10 with
  | false =>
    rw [h1] at t1
    have e1 : floorE a = some ⟨.WrongCount, .int a.length⟩ := by
      unfold floorE
      rw [h1]
    rw [e1] at th
    exact fin_ok (r := .rt (dv K (raisedD ⟨.WrongCount, .int a.length⟩))) (js_rt (js_if t1 (fun _ => js_ret (je_tup (ds := [.str "raised", .str "WrongCount", .int a.length, .bool true]) (ja_cons je_str (ja_cons je_str (ja_cons (len ps0 rfl) (ja_cons je_bl ja_nil)))))) (fun z => Bool.noConfusion z))) (by exact rfl) fh al th
  | true =>
    rw [h1] at t1
    have hl : a.length ≤ 10 := by
      unfold inR at h1
      simp only [Bool.and_eq_true, decide_eq_true_eq] at h1
      omega
    have e1 : floorE a = (badPts a).or (onLine a) := by
      unfold floorE
      rw [h1]
      dsimp only
      cases badPts a <;> rfl
    have l1 : JS K T.M W0 (tFor (iList K (tVar 0)) (gName 1) (tFor (iTup K (tVar 1)) (gName 2) (tIfS (tTest (tOp (rI0 fun i j => .bl (decide (j < i))) (tCB rAbs (tCons (tVar 2) tNil)) (tC (.int 1000000)))) (tRet (tTup (tCons (tC (.str "raised")) (tCons (tC (.str "TooFar")) (tCons (tVar 2) (tCons (tC (.bl true)) tNil)))))) tNext))) ps0 (ends ps0 ((badPts a).map (tell K))) := js_first (vs := [1]) a pD badXY (tell K) (ji_list (je_var (i := 0) rfl)) fun p hp => ⟨_, jg_name, by
      rw [badXY_two]
      exact js_endsO (js_first (vs := [2]) [p.1, p.2] .int tf (tell K) (ji_tup (je_var (i := 1) rfl)) fun v hv => ⟨_, jg_name, by
        have t2 := jt_test (je_gt (je_abs (je_var (K := K) (M := T.M) (W := W0) (ps := [some (dv K (.list (a.map pD))), some (dv K (pD p)), some (dv K (.int v)), none, none, none]) (i := 2) rfl)) (je_int (i := 1000000)))
        rw [far_not] at t2
        cases h2 : inR (-FAR) v FAR with
        | false =>
          rw [h2] at t2
          rw [show tf v = some ⟨.TooFar, .int v⟩ by unfold tf; rw [h2]]
          exact js_if t2 (fun _ => js_ret (je_tup (ds := [.str "raised", .str "TooFar", .int v, .bool true]) (ja_cons je_str (ja_cons je_str (ja_cons (je_var (i := 2) rfl) (ja_cons je_bl ja_nil)))))) (fun z => Bool.noConfusion z)
        | true =>
          rw [h2] at t2
          rw [show tf v = none by unfold tf; rw [h2]]
          exact js_if t2 (fun z => Bool.noConfusion z) (fun _ => js_weak js_next ⟨.inr rfl, .inr rfl, .inl rfl, .inr rfl, .inr rfl, .inr rfl, trivial⟩)⟩) ⟨.inr rfl, .inl rfl, .inr rfl, .inr rfl, .inr rfl, .inr rfl, trivial⟩⟩
    cases h2 : badPts a with
    | some e =>
      rw [h2] at l1 e1
      rw [show floorE a = some e from e1] at th
      exact fin_ok (r := .rt (dv K (raisedD e))) (js_seq (js_if t1 (fun z => Bool.noConfusion z) (fun _ => js_next)) (js_rt l1)) (by exact rfl) fh al th
    | none =>
      rw [h2] at l1 e1
      rw [show floorE a = onLine a from e1] at th
      have rng1 : JI K T.M W0 (iRng1 (tCons (tCB (rLenS K) (tCons (tVar 0) tNil)) tNil)) ps0 ((rg 0 a.length).map .int) := by
        have := ji_rng1 (ja_cons (len ps0 rfl) ja_nil) ⟨by omega, by omega⟩
        rw [Int.toNat_natCast] at this
        exact this
      have l2 : JS K T.M W0 (tFor (iRng1 (tCons (tCB (rLenS K) (tCons (tVar 0) tNil)) tNil)) (gName 3) (tFor (iRng2 (tCons (tOp (rI0 fun i j => .int (i + j)) (tVar 3) (tC (.int 1))) (tCons (tCB (rLenS K) (tCons (tVar 0) tNil)) tNil))) (gName 4) (tFor (iRng2 (tCons (tOp (rI0 fun i j => .int (i + j)) (tVar 4) (tC (.int 1))) (tCons (tCB (rLenS K) (tCons (tVar 0) tNil)) tNil))) (gName 5) (tIfS (tTest (tOp rEq (tCallS (Prm K T.M (args__law_area T) dom__law_area (out__law_area T)) (WE W0) (tCons (tOp (rIxL K) (tVar 0) (tVar 3)) (tCons (tOp (rIxL K) (tVar 0) (tVar 4)) (tCons (tOp (rIxL K) (tVar 0) (tVar 5)) tNil)))) (tC (.int 0)))) (tRet (tTup (tCons (tC (.str "raised")) (tCons (tC (.str "OnLine")) (tCons (tTup (tCons (tVar 3) (tCons (tVar 4) (tCons (tVar 5) tNil)))) (tCons (tC (.bl true)) tNil)))))) tNext)))) ps0 (ends ps0 ((onLine a).map (tell K))) := by
        rw [onLine_eq hl]
        refine js_first (vs := [3]) (rg 0 a.length) .int _ (tell K) rng1 fun i hi => ⟨_, jg_name, ?_⟩
        have hi2 := rg_mem hi
        refine js_endsO (js_first (vs := [4]) (beh i a.length) .int _ (tell K) (ji_rng2 (lo := i + 1) (n := a.length) (ja_cons (je_add (je_var (i := 3) rfl) je_int) (ja_cons (len _ rfl) ja_nil)) ⟨by omega, by omega, by omega, by omega⟩) fun j hj => ⟨_, jg_name, ?_⟩) ⟨.inr rfl, .inr rfl, .inr rfl, .inl rfl, .inr rfl, .inr rfl, trivial⟩
        have hj2 := rg_mem hj
        refine js_endsO (js_first (vs := [5]) (beh j a.length) .int _ (tell K) (ji_rng2 (lo := j + 1) (n := a.length) (ja_cons (je_add (je_var (i := 4) rfl) je_int) (ja_cons (len _ rfl) ja_nil)) ⟨by omega, by omega, by omega, by omega⟩) fun k hk => ⟨_, jg_name, ?_⟩) ⟨.inr rfl, .inr rfl, .inr rfl, .inr rfl, .inl rfl, .inr rfl, trivial⟩
        have hk2 := rg_mem hk
        have no : ∀ x : Int, 0 ≤ x → x < a.length → isNo x a.length = true := fun x h3 h4 => by
          unfold isNo
          simp [h3, h4]
        have hc := je_eqI (je_call (K := K) (M := T.M) (W := W0) (ps := [some (dv K (.list (a.map pD))), none, none, some (dv K (.int i)), some (dv K (.int j)), some (dv K (.int k))]) (args := args__law_area T) (dom := dom__law_area) (out := out__law_area T) (pt a i, pt a j, pt a k)
          (ja_cons (je_ixL (je_var (i := 0) rfl) (je_var (i := 3) rfl) (at_pt (no i (by omega) (by omega)))) (ja_cons (je_ixL (je_var (i := 0) rfl) (je_var (i := 4) rfl) (at_pt (no j (by omega) (by omega)))) (ja_cons (je_ixL (je_var (i := 0) rfl) (je_var (i := 5) rfl) (at_pt (no k (by omega) (by omega)))) ja_nil))) ⟨near_pt hd _, near_pt hd _, near_pt hd _⟩) (je_int (i := 0))
        by_cases h0 : area (pt a i) (pt a j) (pt a k) = 0
        · rw [show lineOf a [i, j, k] = some ⟨.OnLine, tupI [i, j, k]⟩ from if_pos h0]
          exact js_if (b := true) (jt_is (jt_test hc) (decide_eq_true h0)) (fun _ => js_ret (je_tup (ds := [.str "raised", .str "OnLine", tupI [i, j, k], .bool true]) (ja_cons je_str (ja_cons je_str (ja_cons (je_tup (ds := [.int i, .int j, .int k]) (ja_cons (je_var (i := 3) rfl) (ja_cons (je_var (i := 4) rfl) (ja_cons (je_var (i := 5) rfl) ja_nil)))) (ja_cons je_bl ja_nil)))))) (fun z => Bool.noConfusion z)
        · rw [show lineOf a [i, j, k] = none from if_neg h0]
          exact js_if (b := false) (jt_is (jt_test hc) (decide_eq_false h0)) (fun z => Bool.noConfusion z) (fun _ => js_weak js_next ⟨.inr rfl, .inr rfl, .inr rfl, .inr rfl, .inr rfl, .inl rfl, trivial⟩)
      cases h3 : onLine a with
      | some e =>
        rw [h3] at l2 th
        exact fin_ok (r := .rt (dv K (raisedD e))) (js_seq (js_if t1 (fun z => Bool.noConfusion z) (fun _ => js_next)) (js_seq l1 (js_rt l2))) (by exact rfl) fh al th
      | none =>
        rw [h3] at l2 th
        exact fin_ok (r := .rt (dv K (flD a))) (js_seq (js_if t1 (fun z => Bool.noConfusion z) (fun _ => js_next)) (js_seq l1 (js_seq l2
          (js_ret (je_tup (ds := [.str "floor", .str "", .tuple (a.map pD), .bool true]) (ja_cons je_str (ja_cons je_str (ja_cons (je_tupL (je_var (i := 0) rfl)) (ja_cons je_bl ja_nil))))))))) (by exact rfl) fh al th
end K11

namespace K11
open PySem PySem.Spec PyProof.Rows L2 Evl EB
/-! ### len, left_of, others, only, without -/
theorem fin_go {K : PySem.W.Frag} {M : EC → Addr} {ts tu : TS} {N : List Str} {Ps : List PV} {vs : List V} {F H : Hp} {Q : VK} {E : XK} {o : Option Er} {d : PyData} (h : JS K M (fun cls d _ H => E cls d H) ts (entry N Ps) (ends (entry N Ps) (o.map Out.er))) (h2 : o = none → JS K M (fun cls d _ H => E cls d H) tu (entry N Ps) (.rt (dv K d))) (fh : Ex F H) (al : AllP F vs Ps) (th : Then K M F H Q E (outV K o d)) : tSeq ts tu { nx := fun _ H' => Q .non H', rt := Q } (start N vs) H := by
  obtain ⟨r, hz, hf⟩ := fin_then h h2
  exact fin_ok hz hf fh al th
theorem je_pts {K : PySem.W.Frag} {mg : Str → Option Value} (T : Tx K mg) {M : EC → Addr} {W : WX} {ps : Kn} {te : TE} {pts : List (Int × Int)} (h : JV K M W te ps (ob1 K T.a_Floor "points" (.tuple (pts.map pD)))) : JD K M W (tFld K te "points") ps (.tuple (pts.map pD)) := je_fld (C := T.a_Floor) h T.C_Floor T.n_Floor_points
theorem je_many {K : PySem.W.Frag} {mg : Str → Option Value} (T : Tx K mg) {M : EC → Addr} {W : WX} {ps : Kn} {te : TE} {pts : List (Int × Int)} (h : JV K M W te ps (ob1 K T.a_Floor "points" (.tuple (pts.map pD)))) : JD K M W (tCB (rLenS K) (tCons (tFld K te "points") tNil)) ps (.int pts.length) := je_is (je_lenT (je_pts T h)) (by rw [List.length_map])
def args_Floor___len__ {K : PySem.W.Frag} {mg : Str → Option Value} (T : Tx K mg) : List (Int × Int) → List PV := fun a => [ob1 K T.a_Floor "points" (.tuple (a.map pD))]
def dom_Floor___len__ : List (Int × Int) → Prop := fun _ => True
def out_Floor___len__ {K : PySem.W.Frag} {mg : Str → Option Value} (T : Tx K mg) : List (Int × Int) → Out := fun a => .ok (dv K (.int a.length))
theorem ok_Floor___len__ {P : Program} {w : World} {K : PySem.W.Frag} {mg : Str → Option Value} {base : Heap} (T : Tx K mg) : FnOk P w K mg base (L2.CX P w) 1 T.a_Floor___len__ T.fd_Floor___len__ ["self"] (Prm K T.M (args_Floor___len__ T) dom_Floor___len__ (out_Floor___len__ T)) := by
  refine T.F_Floor___len__.okX sc_Floor___len__ (fun vs H Q E h => by obtain ⟨a, F, _, al, _⟩ := h; exact al.length) (fun cdv A outer s H vs Q E hr h => ?_)
  have tk : Takes (cxOf (L2.CX P w) P w K mg base N_Floor___len__ "Floor.__len__" (defScope s_Floor___len__) T.a_Floor___len__ cdv A outer s H E) (fun cls d _ H => E cls d H) := takes_of rfl rfl rfl rfl
  obtain ⟨a, F, fh, al, hd, th⟩ := h
  refine ⟨_, (pss_one (ps_ret (pe_callB call_len_seq (by rfl) T.z_len PySem.boot_len (pa_cons (pe_fld (pv 0) rfl) pa_nil)))), ?_⟩
  exact fin_ok (r := .rt (dv K (.int a.length))) (js_ret (je_many T (je_var (i := 0) rfl))) (by exact rfl) fh al th
theorem je_lenF {K : PySem.W.Frag} {mg : Str → Option Value} (T : Tx K mg) {W : WX} {ps : Kn} {te : TE} {pts : List (Int × Int)} (h : JV K T.M W te ps (ob1 K T.a_Floor "points" (.tuple (pts.map pD)))) (hl : pts.length ≤ 1000) : JD K T.M W (tCB (rLenO T.a_Floor (Prm K T.M (args_Floor___len__ T) dom_Floor___len__ (out_Floor___len__ T)) fun _ _ _ => False) (tCons te tNil)) ps (.int pts.length) :=
  je_lenO pts h rfl trivial rfl (by omega) (by omega)
def oth (n : Nat) (k : Int) : List Int := (rg 0 n).filter fun i => !decide (i = k)
def args_others {K : PySem.W.Frag} {mg : Str → Option Value} (T : Tx K mg) : Nat × Int → List PV := fun a => [dv K (.int a.1), dv K (.int a.2)]
def dom_others : Nat × Int → Prop := fun a => a.1 ≤ 1000
def out_others {K : PySem.W.Frag} {mg : Str → Option Value} (T : Tx K mg) : Nat × Int → Out := fun a => .ok (dv K (.list ((oth a.1 a.2).map .int)))
theorem ji_upto {K : PySem.W.Frag} {M : EC → Addr} {W : WX} {ps : Kn} {te : TE} {n : Nat} (h : JD K M W te ps (.int n)) (hn : n ≤ 1000) : JI K M W (iRng1 (tCons te tNil)) ps ((rg 0 n).map PyData.int) := by
  have := ji_rng1 (ja_cons h ja_nil) ⟨by omega, by omega⟩
  rw [Int.toNat_natCast] at this
  exact this
theorem ok_others {P : Program} {w : World} {K : PySem.W.Frag} {mg : Str → Option Value} {base : Heap} (T : Tx K mg) : FnOk P w K mg base (L2.CX P w) 1 T.a_others T.fd_others ["n", "number"] (Prm K T.M (args_others T) dom_others (out_others T)) := by
  refine T.F_others.okX sc_others (fun vs H Q E h => by obtain ⟨a, F, _, al, _⟩ := h; exact al.length) (fun cdv A outer s H vs Q E hr h => ?_)
  have tk : Takes (cxOf (L2.CX P w) P w K mg base N_others "others" (defScope s_others) T.a_others cdv A outer s H E) (fun cls d _ H => E cls d H) := takes_of rfl rfl rfl rfl
  obtain ⟨a, F, fh, al, hd, th⟩ := h
  refine ⟨_, (pss_one (ps_ret (pe_lc (own := [("k", 2)]) (g := (gName 2)) (tt := (tTest (tOp rNe (tVar 2) (tVar 1)))) (te := (tVar 2)) rfl sc_others.nd (pi_range1 (by rfl) T.z_range (pa_cons (pv 0) pa_nil)) (blkOk_by (N := N_others) (sc := defScope s_others) (own := [("k", 2)]) (by decide +kernel)) (fun _ _ _ _ _ => (pg_name (i := 2) sc_others.nd rfl (by first | exact Or.inl rfl | exact Or.inr rfl))) (fun _ _ _ _ _ => by exact pts_one (pt_cmpR op_ne (pv 2) (pv 1) (nomark _))) (fun _ _ _ _ _ => by exact (pv 2))))), ?_⟩
  obtain ⟨n, k⟩ := a
  have hn : n ≤ 1000 := hd
  refine fin_ok (r := .rt (dv K (.list ((oth n k).map .int)))) (js_ret (je_lc (W' := fun _ _ _ _ => False) (rg 0 n) .int (fun i => !decide (i = k)) .int (ji_upto (je_var (i := 0) rfl) hn) (by rw [rg_length]; omega) fun x _ => ⟨_, jg_name, jt_test (je_neI (je_var (i := 2) rfl) (je_var (i := 1) rfl)), fun _ => je_var (i := 2) rfl⟩)) (by exact rfl) fh al th
def leftN (pts : List (Int × Int)) (a b : Int) : List Nat := (List.range pts.length).filter fun c => decide (0 < area (pt pts a) (pt pts b) (pt pts c))
def leftD (pts : List (Int × Int)) (a b : Int) : PyData := .list ((leftN pts a b).map fun c : Nat => .int (c : Int))
def args_Floor_left_of {K : PySem.W.Frag} {mg : Str → Option Value} (T : Tx K mg) : List (Int × Int) × Int × Int → List PV := fun a => [ob1 K T.a_Floor "points" (.tuple (a.1.map pD)), dv K (.int a.2.1), dv K (.int a.2.2)]
def dom_Floor_left_of : List (Int × Int) × Int × Int → Prop := fun a => a.1.length ≤ 10 ∧ ∀ p ∈ a.1, near p
def out_Floor_left_of {K : PySem.W.Frag} {mg : Str → Option Value} (T : Tx K mg) : List (Int × Int) × Int × Int → Out := fun a => outV K (badNos a.1.length [a.2.1, a.2.2]) (leftD a.1 a.2.1 a.2.2)
theorem no2 {n : Int} {a b : Int} (h : badNos n [a, b] = none) : isNo a n = true ∧ isNo b n = true := by
  have key : ∀ k i, k < 2 → [a, b][k]? = some i → isNo i n = true := fun k i hk hi => by
    have := List.findSome?_eq_none_iff.mp h k (List.mem_range.mpr hk)
    unfold badNo at this
    rw [hi] at this
    dsimp only at this
    cases h1 : isNo i n with
    | true => rfl
    | false => rw [h1] at this; cases this
  exact ⟨key 0 a (by decide) rfl, key 1 b (by decide) rfl⟩
theorem nb_pts (pts : List (Int × Int)) : nb (pts.map pD) = (List.range pts.length).map fun c : Nat => .tuple [.int (c : Int), pD (pt pts c)] := by
  apply List.ext_getElem?
  intro i
  by_cases h : i < pts.length
  · rw [nb_get (d := pD (pt pts i)) (by rw [List.getElem?_map, List.getElem?_eq_getElem h]; unfold pt; simp [h]), List.getElem?_map, List.getElem?_range h]
    rfl
  · rw [List.getElem?_eq_none (by rw [nb_length, List.length_map]; omega), List.getElem?_eq_none (by rw [List.length_map, List.length_range]; omega)]
theorem ok_Floor_left_of {P : Program} {w : World} {K : PySem.W.Frag} {mg : Str → Option Value} {base : Heap} (T : Tx K mg) : FnOk P w K mg base (L2.CX P w) 5 T.a_Floor_left_of T.fd_Floor_left_of ["self", "a", "b"] (Prm K T.M (args_Floor_left_of T) dom_Floor_left_of (out_Floor_left_of T)) := by
  refine T.F_Floor_left_of.okX sc_Floor_left_of (fun vs H Q E h => by obtain ⟨a, F, _, al, _⟩ := h; exact al.length) (fun cdv A outer s H vs Q E hr h => ?_)
  have tk : Takes (cxOf (L2.CX P w) P w K mg base N_Floor_left_of "Floor.left_of" (defScope s_Floor_left_of) T.a_Floor_left_of cdv A outer s H E) (fun cls d _ H => E cls d H) := takes_of rfl rfl rfl rfl
  obtain ⟨a, F, fh, al, hd, th⟩ := h
  refine ⟨_, (pss_cons (ps_expr (pe_callS (ok_check_numbers T) (hr.mono (by decide)) (by rfl) T.g_check_numbers T.F_check_numbers.kp (b_check_numbers T) (fun σ => passAt tk σ) (pa_cons (pe_tup (pa_cons (pv 1) (pa_cons (pv 2) pa_nil))) (pa_cons (pe_callB call_len_seq (by rfl) T.z_len PySem.boot_len (pa_cons (pe_fld (pv 0) rfl) pa_nil)) pa_nil))))
      (pss_cons (ps_asg (pe_tup (pa_cons (pe_ix ix_tup (pe_fld (pv 0) rfl) (pv 1) (fun _ _ => rfl)) (pa_cons (pe_ix ix_tup (pe_fld (pv 0) rfl) (pv 2) (fun _ _ => rfl)) pa_nil))) (pg_tup rfl (pgs_cons (pg_name (i := 3) sc_Floor_left_of.nd rfl (by first | exact Or.inl rfl | exact Or.inr rfl)) (pgs_cons (pg_name (i := 4) sc_Floor_left_of.nd rfl (by first | exact Or.inl rfl | exact Or.inr rfl)) pgs_nil))))
      (pss_one (ps_ret (pe_lc (own := [("c", 5), ("point", 6)]) (g := (gTup K 2 (gCons (gName 5) (gCons (gName 6) gNil)))) (tt := (tTest (tOp (rI0 fun i j => .bl (decide (j < i))) (tCallS (Prm K T.M (args_bare_area T) dom_bare_area (out_bare_area T)) (WE fun _ _ _ _ => False) (tCons (tVar 3) (tCons (tVar 4) (tCons (tVar 6) tNil)))) (tC (.int 0))))) (te := (tVar 5)) rfl sc_Floor_left_of.nd (pi_enumT (by rfl) T.z_enumerate (pa_cons (pe_fld (pv 0) rfl) pa_nil)) (blkOk_by (N := N_Floor_left_of) (sc := defScope s_Floor_left_of) (own := [("c", 5), ("point", 6)]) (by decide +kernel)) (fun _ _ _ _ _ => (pg_tup rfl (pgs_cons (pg_name (i := 5) sc_Floor_left_of.nd rfl (by first | exact Or.inl rfl | exact Or.inr rfl)) (pgs_cons (pg_name (i := 6) sc_Floor_left_of.nd rfl (by first | exact Or.inl rfl | exact Or.inr rfl)) pgs_nil)))) (fun _ _ _ _ _ => by exact pts_one (pt_cmpR op_gt (pe_callS (ok_bare_area T) (hr.mono (by decide)) (by rfl) T.g_bare_area T.F_bare_area.kp (b_bare_area T) (fun σ => passAt takes0 σ) (pa_cons (pv 3) (pa_cons (pv 4) (pa_cons (pv 6) pa_nil)))) pe_int (nomark _))) (fun _ _ _ _ _ => by exact (pv 5))))))), ?_⟩
  obtain ⟨pts, u, v⟩ := a
  obtain ⟨hl, hnear⟩ := hd
  simp only at hl
  let W0 : WX := fun cls d _ H => E cls d H
  have pf : ∀ ps : Kn, ps[0]? = some (some (ob1 K T.a_Floor "points" (.tuple (pts.map pD)))) → JD K T.M W0 (tFld K (tVar 0) "points") ps (.tuple (pts.map pD)) := fun ps h => je_pts T (je_var (i := 0) h)
  have c1 := js_out (je_call (K := K) (M := T.M) (W := W0) (ps := entry N_Floor_left_of (args_Floor_left_of T (pts, u, v))) (args := args_check_numbers T) (dom := dom_check_numbers) (out := out_check_numbers T) (false, [u, v], pts.length) (ja_cons (je_tup (ds := [.int u, .int v]) (ja_cons (je_var (i := 1) rfl) (ja_cons (je_var (i := 2) rfl) ja_nil))) (ja_cons (je_many T (je_var (i := 0) rfl)) ja_nil)) (show 2 ≤ 1000 by decide))
  refine fin_go (o := badNos pts.length [u, v]) c1 (fun h => js_seq (js_asg (vs := [3, 4]) (je_tup (ds := [pD (pt pts u), pD (pt pts v)]) (ja_cons (je_ixT (pf _ rfl) (je_var (i := 1) rfl) (at_pt (no2 h).1)) (ja_cons (je_ixT (pf _ rfl) (je_var (i := 2) rfl) (at_pt (no2 h).2)) ja_nil))) (jg_tup (jgs_cons jg_name (jgs_cons jg_name jgs_nil))))
    (js_ret (je_lc (W' := fun _ _ _ _ => False) (List.range pts.length) (fun c : Nat => .tuple [.int (c : Int), pD (pt pts c)]) (fun c => decide (0 < area (pt pts u) (pt pts v) (pt pts c))) (fun c : Nat => .int (c : Int)) (ji_is (ji_enumT (pf _ rfl)) (nb_pts pts)) (by rw [List.length_range]; omega)
      fun c hc => ⟨_, jg_tup (ds := [.int (c : Int), pD (pt pts c)]) (jgs_cons jg_name (jgs_cons jg_name jgs_nil)), jt_test (je_gt (je_call (args := args_bare_area T) (dom := dom_bare_area) (out := out_bare_area T) (pt pts u, pt pts v, pt pts c) (ja_cons (je_var (i := 3) rfl) (ja_cons (je_var (i := 4) rfl) (ja_cons (je_var (i := 6) rfl) ja_nil))) ⟨near_pt hnear _, near_pt hnear _, near_pt hnear _⟩) je_int), fun _ => je_var (i := 5) rfl⟩))) fh al th
/-! ### only, without -/
def subP (pts : List (Int × Int)) (ns : List Int) : List (Int × Int) := ns.map (pt pts)
def onlyE (pts : List (Int × Int)) (ns : List Int) : Option Er := (if inR 3 ns.length pts.length then none else some ⟨.WrongCount, .int ns.length⟩ : Option Er).or ((badNos pts.length ns).or (floorE (subP pts ns)))
def args_Floor_only {K : PySem.W.Frag} {mg : Str → Option Value} (T : Tx K mg) : List (Int × Int) × Bool × List Int → List PV := fun a => [ob1 K T.a_Floor "points" (.tuple (a.1.map pD)), dv K (sq a.2.1 (a.2.2.map .int))]
def dom_Floor_only : List (Int × Int) × Bool × List Int → Prop := fun a => a.1.length ≤ 10 ∧ a.2.2.length ≤ 1000
def out_Floor_only {K : PySem.W.Frag} {mg : Str → Option Value} (T : Tx K mg) : List (Int × Int) × Bool × List Int → Out := fun a => outO K T.a_Floor (onlyE a.1 a.2.2) (.tuple ((subP a.1 a.2.2).map pD))
def retO (K : PySem.W.Frag) (C : Addr) (o : Option Er) (d : PyData) : Res := match o with
  | none => .rt (ob1 K C "points" d)
  | some e => .er e
theorem js_retO {K : PySem.W.Frag} {M : EC → Addr} {W : WX} {ps : Kn} {te : TE} {C : Addr} {o : Option Er} {d : PyData} (h : JE K M W te ps (outO K C o d)) : JS K M W (tRet te) ps (retO K C o d) := by
  cases o with
  | none => exact js_ret h
  | some e => exact js_ret_er h
theorem js_thenO {K : PySem.W.Frag} {M : EC → Addr} {W : WX} {ts tu : TS} {ps : Kn} {C : Addr} {o o2 : Option Er} {d : PyData} (h : JS K M W ts ps (ends ps (o.map Out.er))) (h2 : o = none → JS K M W tu ps (retO K C o2 d)) : JS K M W (tSeq ts tu) ps (retO K C (o.or o2) d) := by
  cases o with
  | none => exact js_seq h (h2 rfl)
  | some e => exact js_er h
theorem fin_retO {K : PySem.W.Frag} {C : Addr} {d : PyData} : ∀ o : Option Er, Fin K (retO K C o d) (outO K C o d)
  | none => rfl
  | some _ => rfl
theorem badNos_no {n : Int} {ns : List Int} (h : badNos n ns = none) : ∀ x ∈ ns, isNo x n = true := fun x hx => by
  obtain ⟨k, hk, rfl⟩ := List.getElem_of_mem hx
  have := List.findSome?_eq_none_iff.mp h k (List.mem_range.mpr hk)
  unfold badNo at this
  rw [List.getElem?_eq_getElem hk] at this
  dsimp only at this
  cases h1 : isNo ns[k] n with
  | true => rfl
  | false => rw [h1] at this; cases this
theorem ji_seqQ {K : PySem.W.Frag} {M : EC → Addr} {W : WX} {ps : Kn} {te : TE} {b : Bool} {ds : List PyData} (h : JD K M W te ps (sq b ds)) : JI K M W (iSeqQ K te) ps ds := by
  cases b with
  | true => exact fun σ F H R fh S k => .inl (ji_list h σ F H R fh S k)
  | false => exact fun σ F H R fh S k => .inr (ji_tup h σ F H R fh S k)
def withoutE (pts : List (Int × Int)) (k : Int) : Option Er := (if isNo k pts.length then none else some ⟨.NoPoint, .int k⟩ : Option Er).or (onlyE pts (oth pts.length k))
def args_Floor_without {K : PySem.W.Frag} {mg : Str → Option Value} (T : Tx K mg) : List (Int × Int) × Int → List PV := fun a => [ob1 K T.a_Floor "points" (.tuple (a.1.map pD)), dv K (.int a.2)]
def dom_Floor_without : List (Int × Int) × Int → Prop := fun a => a.1.length ≤ 10
def out_Floor_without {K : PySem.W.Frag} {mg : Str → Option Value} (T : Tx K mg) : List (Int × Int) × Int → Out := fun a => outO K T.a_Floor (withoutE a.1 a.2) (.tuple ((subP a.1 (oth a.1.length a.2)).map pD))
end K11

namespace K11
open PySem PySem.Spec PyProof.Rows L2 Evl EB
/-! ### points -/
def atN (xs : List Int) (k : Nat) : Int := xs.getD k 0
theorem at_N {xs : List Int} {k : Nat} (h : k < xs.length) : atI (xs.map PyData.int) (k : Int) = some (.int (atN xs k)) := by
  refine atI_nat ?_
  rw [List.getElem?_map, List.getElem?_eq_getElem h]
  unfold atN
  simp [h]
def acr : List Int := [0, 61, 17, 35, 52, 8, 44, 27, 70, 13]
def upr : List Int := [0, 7, 58, 23, 41, 31, 12, 66, 29, 47]
def px (ns : List Int) (w : Bool) (k : Nat) : Int := cond w ((cell ns (1 + k) + atN acr k * 10007) % 2000001 - 1000000) (atN acr k - 30 + cell ns (1 + k) % 97)
def py (ns : List Int) (w : Bool) (k : Nat) : Int := cond w ((cell ns (1 + k) / 2000001 + atN upr k * 20011) % 2000001 - 1000000) (atN upr k - 30 + cell ns (1 + k) / 97 % 97)
def ptsL (ns : List Int) (n : Nat) (w : Bool) : List (Int × Int) := (List.range n).map fun k => (px ns w k, py ns w k)
def small (p : Int × Int) : Prop := (-1000000 ≤ p.1 ∧ p.1 ≤ 1000000) ∧ (-1000000 ≤ p.2 ∧ p.2 ≤ 1000000)
theorem acr_b : ∀ k : Nat, k < 10 → (0 ≤ atN acr k ∧ atN acr k ≤ 100) ∧ (0 ≤ atN upr k ∧ atN upr k ≤ 100) := by decide
theorem small_pts {ns : List Int} {n : Nat} {w : Bool} (hn : n ≤ 10) : ∀ p ∈ ptsL ns n w, small p := fun p hp => by
  obtain ⟨k, hk, rfl⟩ := List.mem_map.mp hp
  have h := acr_b k (by have := List.mem_range.mp hk; omega)
  unfold small px py
  cases w <;> simp only [cond_true, cond_false] <;> omega
theorem ptsL_succ (ns : List Int) (n : Nat) (w : Bool) : (ptsL ns (n + 1) w).map pD = (ptsL ns n w).map pD ++ [pD (px ns w n, py ns w n)] := by
  unfold ptsL
  rw [List.range_succ, List.map_append, List.map_append]
  rfl
def args__law_drawn {K : PySem.W.Frag} {mg : Str → Option Value} (T : Tx K mg) : List Int × Nat × Bool → List PV := fun a => [dv K (.list (intsD a.1)), dv K (.int a.2.1), dv K (.bool a.2.2)]
def dom__law_drawn : List Int × Nat × Bool → Prop := fun a => a.2.1 ≤ 10
def out__law_drawn {K : PySem.W.Frag} {mg : Str → Option Value} (T : Tx K mg) : List Int × Nat × Bool → Out := fun a => .ok (dv K (.list ((ptsL a.1 a.2.1 a.2.2).map pD)))
theorem mul_c {a b : Int} (h : -2 ^ 64 < b ∧ b < 2 ^ 64) : CMul a b := .inr h
theorem ok__law_drawn {P : Program} {w : World} {K : PySem.W.Frag} {mg : Str → Option Value} {base : Heap} (T : Tx K mg) : FnOk P w K mg base (L2.CX P w) 2 T.a__law_drawn T.fd__law_drawn ["cells", "many", "wide"] (Prm K T.M (args__law_drawn T) dom__law_drawn (out__law_drawn T)) := by
  refine T.F__law_drawn.okX sc__law_drawn (fun vs H Q E h => by obtain ⟨a, F, _, al, _⟩ := h; exact al.length) (fun cdv A outer s H vs Q E hr h => ?_)
  have tk : Takes (cxOf (L2.CX P w) P w K mg base N__law_drawn "_law_drawn" (defScope s__law_drawn) T.a__law_drawn cdv A outer s H E) (fun cls d _ H => E cls d H) := takes_of rfl rfl rfl rfl
  obtain ⟨a, F, fh, al, hd, th⟩ := h
  refine ⟨_, (pss_cons (ps_set (i := 3) sc__law_drawn.nd rfl (by first | exact Or.inl rfl | exact Or.inr rfl) (pe_tup (pa_cons pe_int (pa_cons pe_int (pa_cons pe_int (pa_cons pe_int (pa_cons pe_int (pa_cons pe_int (pa_cons pe_int (pa_cons pe_int (pa_cons pe_int (pa_cons pe_int pa_nil))))))))))))
      (pss_cons (ps_set (i := 4) sc__law_drawn.nd rfl (by first | exact Or.inl rfl | exact Or.inr rfl) (pe_tup (pa_cons pe_int (pa_cons pe_int (pa_cons pe_int (pa_cons pe_int (pa_cons pe_int (pa_cons pe_int (pa_cons pe_int (pa_cons pe_int (pa_cons pe_int (pa_cons pe_int pa_nil))))))))))))
      (pss_cons (ps_set (i := 5) sc__law_drawn.nd rfl (by first | exact Or.inl rfl | exact Or.inr rfl) (pe_lst pa_nil))
      (pss_cons (ps_for (passes_of rfl) rfl (pi_range1 (by rfl) T.z_range (pa_cons (pv 1) pa_nil)) (pg_name (i := 6) sc__law_drawn.nd rfl (by first | exact Or.inl rfl | exact Or.inr rfl)) (pss_cons (ps_set (i := 7) sc__law_drawn.nd rfl (by first | exact Or.inl rfl | exact Or.inr rfl) (pe_callS (ok__law_cell T) (hr.mono (by decide)) (by rfl) T.g__law_cell T.F__law_cell.kp (b__law_cell T) (fun σ => passAt tk σ) (pa_cons (pv 0) (pa_cons (pe_op op_add pe_int (pv 6)) pa_nil))))
      (pss_cons (ps_set (i := 8) sc__law_drawn.nd rfl (by first | exact Or.inl rfl | exact Or.inr rfl) (pe_op op_add (pe_op op_sub (pe_ix ix_tup (pv 3) (pv 6) (fun _ _ => rfl)) pe_int) (pe_op op_mod (pe_callTy call_int1 (by rfl) T.z_int PyProof.Rows.boot_int (pa_cons (pv 7) pa_nil)) pe_int)))
      (pss_cons (ps_set (i := 9) sc__law_drawn.nd rfl (by first | exact Or.inl rfl | exact Or.inr rfl) (pe_op op_add (pe_op op_sub (pe_ix ix_tup (pv 4) (pv 6) (fun _ _ => rfl)) pe_int) (pe_op op_mod (pe_callTy call_int1 (by rfl) T.z_int PyProof.Rows.boot_int (pa_cons (pe_op op_fdiv (pv 7) pe_int) pa_nil)) pe_int)))
      (pss_cons (ps_if (pt_val (pv 2)) (pss_cons (ps_set (i := 8) sc__law_drawn.nd rfl (by first | exact Or.inl rfl | exact Or.inr rfl) (pe_op op_sub (pe_op op_mod (pe_callTy call_int1 (by rfl) T.z_int PyProof.Rows.boot_int (pa_cons (pe_op op_add (pv 7) (pe_op op_mul (pe_ix ix_tup (pv 3) (pv 6) (fun _ _ => rfl)) pe_int)) pa_nil)) pe_int) pe_int))
      (pss_one (ps_set (i := 9) sc__law_drawn.nd rfl (by first | exact Or.inl rfl | exact Or.inr rfl) (pe_op op_sub (pe_op op_mod (pe_callTy call_int1 (by rfl) T.z_int PyProof.Rows.boot_int (pa_cons (pe_op op_add (pe_op op_fdiv (pv 7) pe_int) (pe_op op_mul (pe_ix ix_tup (pv 4) (pv 6) (fun _ _ => rfl)) pe_int)) pa_nil)) pe_int) pe_int)))) pss_nil)
      (pss_one (ps_expr (pe_bm PySem.F.plainAttrs_list PySem.F.slot_list_append PySem.F.type_list_append mt_append (pv 5) (pa_cons (pe_tup (pa_cons (pv 8) (pa_cons (pv 9) pa_nil))) pa_nil)))))))))
      (pss_one (ps_ret (pv 5))))))), ?_⟩
  obtain ⟨ns, n, w⟩ := a
  have hn : n ≤ 10 := hd
  let W0 : WX := fun cls d _ H => E cls d H
  refine fin_ok (r := .rt (dv K (.list ((ptsL ns n w).map pD)))) (js_seq (js_set (i := 3) (P := dv K (tupI acr)) (je_tup (ds := acr.map .int) (ja_cons je_int (ja_cons je_int (ja_cons je_int (ja_cons je_int (ja_cons je_int (ja_cons je_int (ja_cons je_int (ja_cons je_int (ja_cons je_int (ja_cons je_int ja_nil)))))))))) (by decide))) (js_seq (js_set (i := 4) (P := dv K (tupI upr)) (je_tup (ds := upr.map .int) (ja_cons je_int (ja_cons je_int (ja_cons je_int (ja_cons je_int (ja_cons je_int (ja_cons je_int (ja_cons je_int (ja_cons je_int (ja_cons je_int (ja_cons je_int ja_nil)))))))))) (by decide))) (jl_new fun D F1 H1 hD => ?_))) (by exact rfl) fh al th
  let psX : Kn := [some (dv K (.list (intsD ns))), some (dv K (.int n)), some (dv K (.bool w)), some (dv K (tupI acr)), some (dv K (tupI upr)), some (xv (.ref D)), none, none, none, none]
  refine jl_seq (qs := psX) (es := (ptsL ns n w).map pD) (jl_is (jl_for (vs := [6]) ((rg 0 n).map .int) (fun _ => psX) (fun j => (ptsL ns j w).map pD) (ji_is (ji_rng1 (n := n) (ja_cons (je_var (i := 1) rfl) ja_nil) ⟨by omega, by omega⟩) (by rw [Int.toNat_natCast])) rfl rfl fun j d hj => ?_) (by rw [List.length_map, rg_length])) (jl_ret rfl hD)
  obtain ⟨hj1, rfl⟩ := rg_int hj
  refine ⟨_, jg_name, ?_⟩
  have ha : JD K T.M W0 (tOp (rIxT K) (tVar 3) (tVar 6)) [some (dv K (.list (intsD ns))), some (dv K (.int n)), some (dv K (.bool w)), some (dv K (tupI acr)), some (dv K (tupI upr)), some (xv (.ref D)), some (dv K (.int j)), some (dv K (.int (cell ns (1 + j)))), none, none] (.int (atN acr j)) := je_ixT (ds := acr.map .int) (je_var (i := 3) rfl) (je_var (i := 6) rfl) (at_N (by show j < 10; omega))
  have hu : ∀ x y : Option PV, JD K T.M W0 (tOp (rIxT K) (tVar 4) (tVar 6)) [some (dv K (.list (intsD ns))), some (dv K (.int n)), some (dv K (.bool w)), some (dv K (tupI acr)), some (dv K (tupI upr)), some (xv (.ref D)), some (dv K (.int j)), some (dv K (.int (cell ns (1 + j)))), x, y] (.int (atN upr j)) := fun x y => je_ixT (ds := upr.map .int) (je_var (i := 4) rfl) (je_var (i := 6) rfl) (at_N (by show j < 10; omega))
  have ha2 : ∀ x y : Option PV, JD K T.M W0 (tOp (rIxT K) (tVar 3) (tVar 6)) [some (dv K (.list (intsD ns))), some (dv K (.int n)), some (dv K (.bool w)), some (dv K (tupI acr)), some (dv K (tupI upr)), some (xv (.ref D)), some (dv K (.int j)), some (dv K (.int (cell ns (1 + j)))), x, y] (.int (atN acr j)) := fun x y => je_ixT (ds := acr.map .int) (je_var (i := 3) rfl) (je_var (i := 6) rfl) (at_N (by show j < 10; omega))
  refine jl_seq (jl_js (js_set (P := dv K (.int (cell ns (1 + j)))) (je_call (args := args__law_cell T) (dom := dom__law_cell) (out := out__law_cell T) (ns, 1 + j) (ja_cons (je_var (i := 0) rfl) (ja_cons (je_is (je_add je_int (je_var (i := 6) rfl)) (show PyData.int _ = PyData.int _ by push_cast; rfl)) ja_nil)) trivial)))
    (jl_seq (jl_js (js_set (i := 8) (je_add (je_sub ha je_int) (je_mod (je_intI (je_var (i := 7) rfl)) je_int (by decide)))))
    (jl_seq (jl_js (js_set (i := 9) (je_add (je_sub (hu _ _) je_int) (je_mod (je_intI (je_div (je_var (i := 7) rfl) je_int ⟨by decide, by decide⟩)) je_int (by decide)))))
    (jl_seq (qs := [some (dv K (.list (intsD ns))), some (dv K (.int n)), some (dv K (.bool w)), some (dv K (tupI acr)), some (dv K (tupI upr)), some (xv (.ref D)), some (dv K (.int j)), some (dv K (.int (cell ns (1 + j)))), some (dv K (.int (px ns w j))), some (dv K (.int (py ns w j)))]) (jl_js (js_if (b := w) (jt_B (je_var (i := 2) rfl)) (fun h => ?_) (fun h => ?_)))
    (jl_weak (jl_is (jl_app rfl hD (ja_cons (je_tup (ds := [.int (px ns w j), .int (py ns w j)]) (ja_cons (je_var (i := 8) rfl) (ja_cons (je_var (i := 9) rfl) ja_nil))) ja_nil) ?_) (ptsL_succ ns j w).symm) ⟨.inr rfl, .inr rfl, .inr rfl, .inr rfl, .inr rfl, .inr rfl, .inl rfl, .inl rfl, .inl rfl, .inl rfl, trivial⟩))))
  · subst h
    exact js_seq (js_set (i := 8) (P := dv K (.int (px ns true j))) (je_sub (je_mod (je_intI (je_add (je_var (i := 7) rfl) (je_mul (ha2 _ _) je_int (mul_c (by decide))))) je_int (by decide)) je_int)) (js_set (i := 9) (P := dv K (.int (py ns true j))) (je_sub (je_mod (je_intI (je_add (je_div (je_var (i := 7) rfl) je_int ⟨by decide, by decide⟩) (je_mul (hu _ _) je_int (mul_c (by decide))))) je_int (by decide)) je_int))
  · subst h
    exact js_next
  · rw [List.length_map]
    unfold ptsL
    rw [List.length_map, List.length_range]
    omega
end K11

namespace K11
open PySem PySem.Spec PyProof.Rows L2 Evl EB
def args__law_whole {K : PySem.W.Frag} {mg : Str → Option Value} (T : Tx K mg) : Int → List PV := fun a => [dv K (.int a)]
def dom__law_whole : Int → Prop := fun _ => True
def out__law_whole {K : PySem.W.Frag} {mg : Str → Option Value} (T : Tx K mg) : Int → Out := fun _ => .ok (dv K (.bool true))
theorem ok__law_whole {P : Program} {w : World} {K : PySem.W.Frag} {mg : Str → Option Value} {base : Heap} (T : Tx K mg) : FnOk P w K mg base (L2.CX P w) 1 T.a__law_whole T.fd__law_whole ["thing"] (Prm K T.M (args__law_whole T) dom__law_whole (out__law_whole T)) := by
  refine T.F__law_whole.okX sc__law_whole (fun vs H Q E h => by obtain ⟨a, F, _, al, _⟩ := h; exact al.length) (fun cdv A outer s H vs Q E hr h => ?_)
  have tk : Takes (cxOf (L2.CX P w) P w K mg base N__law_whole "_law_whole" (defScope s__law_whole) T.a__law_whole cdv A outer s H E) (fun cls d _ H => E cls d H) := takes_of rfl rfl rfl rfl
  obtain ⟨a, F, fh, al, hd, th⟩ := h
  refine ⟨_, (pss_one (ps_ret (pe_and (pe_callB call_isi (by rfl) T.z_isinstance PyProof.Rows.boot_isinstance (pa_cons (pv 0) (pa_cons (pe_bltn (v := .ty "int") (by rfl) T.z_int PyProof.Rows.boot_int rfl) pa_nil))) (pe_one (pe_not (pe_callB call_isi (by rfl) T.z_isinstance PyProof.Rows.boot_isinstance (pa_cons (pv 0) (pa_cons (pe_bltn (v := .ty "bool") (by rfl) T.z_bool PyProof.Rows.boot_bool rfl) pa_nil)))))))), ?_⟩
  exact fin_ok (r := .rt (dv K (.bool true))) (js_ret (je_andV (a := true) (b := true) (je_isTyI (je_var (i := 0) rfl) (by decide)) (fun _ => je_notV (a := false) (je_isTyI (je_var (i := 0) rfl) (by decide))))) (by exact rfl) fh al th
/-! ### lines_and_lefts, line_row -/
def trip (pts : List (Int × Int)) : List (Int × Int × Nat) := (rg 0 pts.length).flatMap fun a => (oth pts.length a).map fun b => (a, b, (leftN pts a b).length)
def encT (t : Int × Int × Nat) : PyData := .tuple [.tuple [.int t.1, .int t.2.1], .int t.2.2]
theorem oth_mem {n : Nat} {k x : Int} (h : x ∈ oth n k) : 0 ≤ x ∧ x < n ∧ x ≠ k := by
  obtain ⟨h1, h2⟩ := List.mem_filter.mp h
  have := rg_mem h1
  refine ⟨by omega, by omega, fun z => ?_⟩
  simp [z] at h2
theorem badNos_two {n : Nat} {a b : Int} (ha : 0 ≤ a ∧ a < n) (hb : 0 ≤ b ∧ b < n) (h : b ≠ a) : badNos n [a, b] = none := by
  have na : isNo a n = true := by unfold isNo; simp [ha.1, ha.2]
  have nb : isNo b n = true := by unfold isNo; simp [hb.1, hb.2]
  unfold badNos
  show [0, 1].findSome? _ = none
  simp only [List.findSome?_cons, List.findSome?_nil]
  unfold badNo
  simp [na, nb, h]
def args_lines_and_lefts {K : PySem.W.Frag} {mg : Str → Option Value} (T : Tx K mg) : List (Int × Int) → List PV := args_Floor___len__ T
def dom_lines_and_lefts : List (Int × Int) → Prop := fun a => a.length ≤ 10 ∧ ∀ p ∈ a, near p
def out_lines_and_lefts {K : PySem.W.Frag} {mg : Str → Option Value} (T : Tx K mg) : List (Int × Int) → Out := fun a => .ok (dv K (.list ((trip a).map encT)))
theorem je_left {K : PySem.W.Frag} {mg : Str → Option Value} (T : Tx K mg) {W : WX} {ps : Kn} {te t1 t2 : TE} {pts : List (Int × Int)} {a b : Int} (h : JV K T.M W te ps (ob1 K T.a_Floor "points" (.tuple (pts.map pD)))) (h1 : JD K T.M W t1 ps (.int a)) (h2 : JD K T.M W t2 ps (.int b)) (hl : pts.length ≤ 10) (hn : ∀ p ∈ pts, near p) (hb : badNos pts.length [a, b] = none) :
    JD K T.M W (tMethW T.a_Floor "left_of" (Prm K T.M (args_Floor_left_of T) dom_Floor_left_of (out_Floor_left_of T)) (WE W) te (tCons t1 (tCons t2 tNil))) ps (leftD pts a b) := by
  have := je_meth (args := args_Floor_left_of T) (dom := dom_Floor_left_of) (out := out_Floor_left_of T) (C := T.a_Floor) (m := "left_of") (f := "points") (pts, a, b) h (by decide) _ (ja_cons h1 (ja_cons h2 ja_nil)) rfl ⟨hl, hn⟩
  have e : out_Floor_left_of T (pts, a, b) = .ok (dv K (leftD pts a b)) := by
    unfold out_Floor_left_of
    dsimp only
    rw [hb]
    rfl
  rw [e] at this
  exact this
theorem flatMap_le {α β : Type} (f : α → List β) (c : Nat) : ∀ xs : List α, (∀ x ∈ xs, (f x).length ≤ c) → (xs.flatMap f).length ≤ xs.length * c
  | [], _ => by simp
  | x :: r, h => by
    have h1 := h x List.mem_cons_self
    have h2 := flatMap_le f c r fun y hy => h y (List.mem_cons_of_mem _ hy)
    rw [List.flatMap_cons, List.length_append, List.length_cons, Nat.succ_mul]
    omega
theorem oth_len {n : Nat} {k : Int} : (oth n k).length ≤ n := by
  have := List.length_filter_le (fun i : Int => !decide (i = k)) (rg 0 n)
  rw [rg_length] at this
  exact this
theorem trip_len {pts : List (Int × Int)} (h : pts.length ≤ 10) : (trip pts).length ≤ 100 := by
  have := flatMap_le (fun a => (oth pts.length a).map fun b => (a, b, (leftN pts a b).length)) 10 (rg 0 pts.length) fun a _ => by
    rw [List.length_map]
    have := @oth_len pts.length a
    omega
  unfold trip
  rw [rg_length] at this
  omega
theorem trip_map {pts : List (Int × Int)} : (trip pts).map encT = (rg 0 pts.length).flatMap fun a => ((oth pts.length a).filter fun _ => true).map fun b => .tuple [.tuple [.int a, .int b], .int (leftN pts a b).length] := by
  unfold trip
  rw [List.map_flatMap]
  congr 1
  funext a
  rw [List.map_map, List.filter_eq_self.mpr fun _ _ => rfl]
  rfl
theorem ok_lines_and_lefts {P : Program} {w : World} {K : PySem.W.Frag} {mg : Str → Option Value} {base : Heap} (T : Tx K mg) : FnOk P w K mg base (L2.CX P w) 6 T.a_lines_and_lefts T.fd_lines_and_lefts ["floor"] (Prm K T.M (args_lines_and_lefts T) dom_lines_and_lefts (out_lines_and_lefts T)) := by
  refine T.F_lines_and_lefts.okX sc_lines_and_lefts (fun vs H Q E h => by obtain ⟨a, F, _, al, _⟩ := h; exact al.length) (fun cdv A outer s H vs Q E hr h => ?_)
  have tk : Takes (cxOf (L2.CX P w) P w K mg base N_lines_and_lefts "lines_and_lefts" (defScope s_lines_and_lefts) T.a_lines_and_lefts cdv A outer s H E) (fun cls d _ H => E cls d H) := takes_of rfl rfl rfl rfl
  obtain ⟨a, F, fh, al, hd, th⟩ := h
  refine ⟨_, (pss_cons (ps_set (i := 1) sc_lines_and_lefts.nd rfl (by first | exact Or.inl rfl | exact Or.inr rfl) (pe_callB (call_lenOwn (ok_Floor___len__ T) (hr.mono (by decide)) T.m_Floor___len__.1 T.m_Floor___len__.2 (b_Floor___len__ T) passF) (by rfl) T.z_len PySem.boot_len (pa_cons (pv 0) pa_nil)))
      (pss_one (ps_ret (pe_lc2 (own := [("a", 2), ("b", 3)]) (g := (gName 2)) (tt := tYes) (te := (tTup (tCons (tTup (tCons (tVar 2) (tCons (tVar 3) tNil))) (tCons (tCB (rLenS K) (tCons (tMethW T.a_Floor "left_of" (Prm K T.M (args_Floor_left_of T) dom_Floor_left_of (out_Floor_left_of T)) (WE fun _ _ _ _ => False) (tVar 0) (tCons (tVar 2) (tCons (tVar 3) tNil))) tNil)) tNil)))) (wi1 := (iList K (tCallS (Prm K T.M (args_others T) dom_others (out_others T)) (WE fun _ _ _ _ => False) (tCons (tVar 1) (tCons (tVar 2) tNil))))) (g1 := (gName 3)) (tt1 := tYes) (vs1 := [3]) rfl sc_lines_and_lefts.nd (pi_range1 (by rfl) T.z_range (pa_cons (pv 1) pa_nil)) (blkOk_by (N := N_lines_and_lefts) (sc := defScope s_lines_and_lefts) (own := [("a", 2), ("b", 3)]) (by decide +kernel)) (by decide) (fun _ _ _ _ _ => (pg_name (i := 2) sc_lines_and_lefts.nd rfl (by first | exact Or.inl rfl | exact Or.inr rfl))) (fun _ _ _ _ _ => by exact pts_nil) (fun _ _ _ _ _ => by exact (pi_list (pe_callS (ok_others T) (hr.mono (by decide)) (by rfl) T.g_others T.F_others.kp (b_others T) (fun σ => passAt takes0 σ) (pa_cons (pv 1) (pa_cons (pv 2) pa_nil))))) (fun _ _ _ _ _ => (pg_name (i := 3) sc_lines_and_lefts.nd rfl (by first | exact Or.inl rfl | exact Or.inr rfl))) (fun _ _ _ _ _ => pts_nil) (fun _ _ _ _ _ => by exact (pe_tup (pa_cons (pe_tup (pa_cons (pv 2) (pa_cons (pv 3) pa_nil))) (pa_cons (pe_callB call_len_seq (by rfl) T.z_len PySem.boot_len (pa_cons (pe_methW (pv 0) T.C_Floor T.m_Floor_left_of (ok_Floor_left_of T) (hr.mono (by decide)) (b_Floor_left_of T) (fun σ => passAt takes0 σ) (pa_cons (pv 2) (pa_cons (pv 3) pa_nil))) pa_nil)) pa_nil)))))))), ?_⟩
  obtain ⟨hl, hn⟩ := hd
  refine fin_ok (r := .rt (dv K (.list ((trip a).map encT)))) (js_seq (js_set (i := 1) (je_lenF T (je_var (i := 0) rfl) (by omega))) (js_ret ?_)) (by exact rfl) fh al th
  rw [trip_map]
  refine je_lc2 (W' := fun _ _ _ _ => False) (rg 0 a.length) (fun x => oth a.length x) .int .int (fun _ _ => true) (fun x y => .tuple [.tuple [.int x, .int y], .int (leftN a x y).length]) (ji_upto (je_var (i := 1) rfl) (by omega)) ?_ fun x hx => ?_
  · rw [← trip_map, List.length_map]
    have := trip_len hl
    omega
  · have hx2 := rg_mem hx
    refine ⟨_, jg_name, jt_yes, ji_list (je_call (args := args_others T) (dom := dom_others) (out := out_others T) (a.length, x) (ja_cons (je_var (i := 1) rfl) (ja_cons (je_var (i := 2) rfl) ja_nil)) (show a.length ≤ 1000 by omega)), fun y hy => ⟨_, jg_name, jt_yes, fun _ => ?_⟩⟩
    have hy2 := oth_mem hy
    refine je_tup (ds := [.tuple [.int x, .int y], .int (leftN a x y).length]) (ja_cons (je_tup (ds := [.int x, .int y]) (ja_cons (je_var (i := 2) rfl) (ja_cons (je_var (i := 3) rfl) ja_nil))) (ja_cons (je_is (je_lenL (ds := (leftN a x y).map fun c : Nat => .int (c : Int)) (je_left T (je_var (i := 0) rfl) (je_var (i := 2) rfl) (je_var (i := 3) rfl) hl hn (badNos_two ⟨by omega, by omega⟩ ⟨by omega, by omega⟩ hy2.2.2))) (by rw [List.length_map])) ja_nil))
theorem count_filter (l : List Int) (j : Int) : (l.filter fun x => decide (x = j)).length = l.count j := by
  rw [← List.countP_eq_length_filter]
  unfold List.count
  congr 1
def cnts (pts : List (Int × Int)) : List Int := (trip pts).map fun t => (t.2.2 : Int)
def rowP (pts : List (Int × Int)) : List PyData := (rg 0 (pts.length - 1)).map fun j => .int ((cnts pts).count j : Nat)
def args_tally {K : PySem.W.Frag} {mg : Str → Option Value} (T : Tx K mg) : List Int × Nat → List PV := fun a => [dv K (.list (a.1.map .int)), dv K (.int a.2)]
def dom_tally : List Int × Nat → Prop := fun a => a.1.length ≤ 80000 ∧ a.2 ≤ 1000
def out_tally : List Int × Nat → List PyData := fun a => (rg 0 a.2).map fun j => .int (a.1.count j : Nat)
theorem ok_tally {P : Program} {w : World} {K : PySem.W.Frag} {mg : Str → Option Value} {base : Heap} (T : Tx K mg) : FnOk P w K mg base (L2.CX P w) 1 T.a_tally T.fd_tally ["counts", "length"] (PrmN K (args_tally T) dom_tally out_tally) := by
  refine T.F_tally.okX sc_tally (fun vs H Q E h => by obtain ⟨a, F, _, al, _⟩ := h; exact al.length) (fun cdv A outer s H vs Q E hr h => ?_)
  have tk : Takes (cxOf (L2.CX P w) P w K mg base N_tally "tally" (defScope s_tally) T.a_tally cdv A outer s H E) (fun cls d _ H => E cls d H) := takes_of rfl rfl rfl rfl
  obtain ⟨a, F, fh, al, hd, th⟩ := h
  refine ⟨_, (pss_one (ps_ret (pe_lc (own := [("j", 3)]) (g := (gName 3)) (tt := tYes) (te := (tCB (rLenS K) (tCons (tLc (iList K (tVar 0)) (gName 2) (tTest (tOp rEq (tVar 2) (tVar 3))) (tVar 2) [2]) tNil))) rfl sc_tally.nd (pi_range1 (by rfl) T.z_range (pa_cons (pv 1) pa_nil)) (blkOk_by (N := N_tally) (sc := defScope s_tally) (own := [("j", 3)]) (by decide +kernel)) (fun _ _ _ _ _ => (pg_name (i := 3) sc_tally.nd rfl (by first | exact Or.inl rfl | exact Or.inr rfl))) (fun _ _ _ _ _ => by exact pts_nil) (fun _ _ _ _ _ => by exact (pe_callB call_len_seq (by rfl) T.z_len PySem.boot_len (pa_cons (pe_lc (own := [("entry", 2)]) (g := (gName 2)) (tt := (tTest (tOp rEq (tVar 2) (tVar 3)))) (te := (tVar 2)) rfl sc_tally.nd (pi_list (pv 0)) (by exact (show BlkOk N_tally (relS _ (defScope s_tally)) _ [("entry", 2)] from blkOk_by (by decide +kernel))) (fun _ _ _ _ _ => (pg_name (i := 2) sc_tally.nd rfl (by first | exact Or.inl rfl | exact Or.inr rfl))) (fun _ _ _ _ _ => by exact pts_one (pt_cmpR op_eq (pv 2) (pv 3) (nomark _))) (fun _ _ _ _ _ => by exact (pv 2))) pa_nil)))))), ?_⟩
  obtain ⟨xs, m⟩ := a
  obtain ⟨hl, hm⟩ := hd
  simp only at hl hm
  refine fin_new (jn_is (jn_lc (M := T.M) (W := fun cls d _ H => E cls d H) (W' := fun _ _ _ _ => False) (rg 0 m) .int (fun _ => true) (fun j => .int (xs.count j : Nat)) (ji_upto (n := m) (je_var (i := 1) rfl) (by omega)) (by rw [rg_length]; omega)
      fun j _ => ⟨_, jg_name, jt_yes, fun _ => je_is (je_lenL (je_lc (vs := [2]) (W' := fun _ _ _ _ => False) xs .int (fun x => decide (x = j)) .int (ji_list (je_var (i := 0) rfl)) (by omega) fun x _ => ⟨_, jg_name, jt_test (je_eqI (je_var (i := 2) rfl) (je_var (i := 3) rfl)), fun _ => je_var (i := 2) rfl⟩)) (by rw [List.length_map, count_filter])⟩) ?_) fh al th
  rw [List.filter_eq_self.mpr fun _ _ => rfl]
  rfl
def args_line_row {K : PySem.W.Frag} {mg : Str → Option Value} (T : Tx K mg) : List (Int × Int) → List PV := args_Floor___len__ T
def dom_line_row : List (Int × Int) → Prop := fun a => (a.length ≤ 10 ∧ ∀ p ∈ a, near p) ∧ 1 ≤ a.length
def out_line_row : List (Int × Int) → List PyData := rowP
theorem ok_line_row {P : Program} {w : World} {K : PySem.W.Frag} {mg : Str → Option Value} {base : Heap} (T : Tx K mg) : FnOk P w K mg base (L2.CX P w) 7 T.a_line_row T.fd_line_row ["floor"] (PrmN K (args_line_row T) dom_line_row out_line_row) := by
  refine T.F_line_row.okX sc_line_row (fun vs H Q E h => by obtain ⟨a, F, _, al, _⟩ := h; exact al.length) (fun cdv A outer s H vs Q E hr h => ?_)
  have tk : Takes (cxOf (L2.CX P w) P w K mg base N_line_row "line_row" (defScope s_line_row) T.a_line_row cdv A outer s H E) (fun cls d _ H => E cls d H) := takes_of rfl rfl rfl rfl
  obtain ⟨a, F, fh, al, hd, th⟩ := h
  refine ⟨_, (pss_one (ps_ret (pe_callS (ok_tally T) (hr.mono (by decide)) (by rfl) T.g_tally T.F_tally.kp (b_tally T) (fun σ => passAt tk σ) (pa_cons (pe_lc (own := [("line", 1), ("left", 2)]) (g := (gTup K 2 (gCons (gName 1) (gCons (gName 2) gNil)))) (tt := tYes) (te := (tVar 2)) rfl sc_line_row.nd (pi_list (pe_callS (ok_lines_and_lefts T) (hr.mono (by decide)) (by rfl) T.g_lines_and_lefts T.F_lines_and_lefts.kp (b_lines_and_lefts T) (fun σ => passAt tk σ) (pa_cons (pv 0) pa_nil))) (blkOk_by (N := N_line_row) (sc := defScope s_line_row) (own := [("line", 1), ("left", 2)]) (by decide +kernel)) (fun _ _ _ _ _ => (pg_tup rfl (pgs_cons (pg_name (i := 1) sc_line_row.nd rfl (by first | exact Or.inl rfl | exact Or.inr rfl)) (pgs_cons (pg_name (i := 2) sc_line_row.nd rfl (by first | exact Or.inl rfl | exact Or.inr rfl)) pgs_nil)))) (fun _ _ _ _ _ => by exact pts_nil) (fun _ _ _ _ _ => by exact (pv 2))) (pa_cons (pe_op op_sub (pe_callB (call_lenOwn (ok_Floor___len__ T) (hr.mono (by decide)) T.m_Floor___len__.1 T.m_Floor___len__.2 (b_Floor___len__ T) passF) (by rfl) T.z_len PySem.boot_len (pa_cons (pv 0) pa_nil)) pe_int) pa_nil))))), ?_⟩
  obtain ⟨⟨hl, hn⟩, h1⟩ := hd
  have lc : (cnts a).length ≤ 100 := by
    unfold cnts
    rw [List.length_map]
    exact trip_len hl
  refine fin_new (jn_call (M := T.M) (W := fun cls d _ H => E cls d H) (args := args_tally T) (dom := dom_tally) (out := out_tally) (cnts a, a.length - 1) (ja_cons (je_is (je_lc (W' := fun _ _ _ _ => False) (trip a) encT (fun _ => true) (fun t => .int (t.2.2 : Int)) (ji_list (je_call (args := args_lines_and_lefts T) (dom := dom_lines_and_lefts) (out := out_lines_and_lefts T) a (ja_cons (je_var (i := 0) rfl) ja_nil) ⟨hl, hn⟩)) (by have := trip_len hl; omega)
      fun t _ => ⟨_, jg_tup (ds := [.tuple [.int t.1, .int t.2.1], .int t.2.2]) (jgs_cons jg_name (jgs_cons jg_name jgs_nil)), jt_yes, fun _ => je_var (i := 2) rfl⟩) ?_) (ja_cons (je_is (je_sub (je_lenF T (je_var (i := 0) rfl) (by omega)) je_int) (by congr 1; omega)) ja_nil)) ⟨by dsimp only; omega, by dsimp only; omega⟩) fh al th
  rw [List.filter_eq_self.mpr fun _ _ => rfl]
  unfold cnts
  rw [List.map_map]
  rfl
end K11

namespace K11
open PySem PySem.Spec PyProof.Rows L2 Evl EB
/-! ### points in general position -/
theorem area_ppr (p r : Int × Int) : area p r p = 0 := by
  unfold area
  grind
theorem area_pqq (p q : Int × Int) : area p q q = 0 := by
  unfold area
  grind
theorem area_ppq (p q : Int × Int) : area p p q = 0 := by
  unfold area
  grind
theorem area_sw (p q r : Int × Int) : area q p r = -area p q r := by
  unfold area
  grind
theorem area_ro (p q r : Int × Int) : area q r p = area p q r := by
  unfold area
  grind
structure Gp (xs : List (Int × Int)) : Prop where
  nd : xs.Nodup
  ne : ∀ p q r, p ∈ xs → q ∈ xs → r ∈ xs → p ≠ q → r ≠ p → r ≠ q → area p q r ≠ 0
theorem mem_rg {lo x : Int} {m : Nat} (h1 : lo ≤ x) (h2 : x < lo + m) : x ∈ rg lo m := by
  unfold rg
  exact List.mem_map.mpr ⟨(x - lo).toNat, List.mem_range.mpr (by omega), by omega⟩
theorem pt_nat {pts : List (Int × Int)} {i : Nat} (h : i < pts.length) : pt pts (i : Int) = pts[i] := by
  unfold pt
  simp [h]
theorem pt_mem {pts : List (Int × Int)} {i : Int} (h : 0 ≤ i ∧ i < pts.length) : pt pts i ∈ pts := by
  obtain ⟨j, rfl⟩ := Int.eq_ofNat_of_zero_le h.1
  rw [pt_nat (by omega)]
  exact List.getElem_mem _
/-- what no line through three says of the numbers -/
theorem asc_of {pts : List (Int × Int)} (h : onLine pts = none) (hl : pts.length ≤ 10) : ∀ i j k : Nat, i < j → j < k → (hk : k < pts.length) → area (pt pts i) (pt pts j) (pt pts k) ≠ 0 := fun i j k h1 h2 h3 z => by
  rw [onLine_eq hl] at h
  have a1 := List.findSome?_eq_none_iff.mp h i (mem_rg (by omega) (by omega))
  have a2 := List.findSome?_eq_none_iff.mp a1 j (mem_rg (by omega) (by omega))
  have a3 := List.findSome?_eq_none_iff.mp a2 k (mem_rg (by omega) (by omega))
  unfold lineOf at a3
  dsimp only at a3
  rw [if_pos z] at a3
  cases a3
theorem asc_to {pts : List (Int × Int)} (hl : pts.length ≤ 10) (h : ∀ i j k : Nat, i < j → j < k → k < pts.length → area (pt pts i) (pt pts j) (pt pts k) ≠ 0) : onLine pts = none := by
  rw [onLine_eq hl]
  refine List.findSome?_eq_none_iff.mpr fun a ha => List.findSome?_eq_none_iff.mpr fun b hb => List.findSome?_eq_none_iff.mpr fun c hc => ?_
  have ha2 := rg_mem ha
  have hb2 := rg_mem hb
  have hc2 := rg_mem hc
  obtain ⟨i, rfl⟩ := Int.eq_ofNat_of_zero_le (by omega : (0:Int) ≤ a)
  obtain ⟨j, rfl⟩ := Int.eq_ofNat_of_zero_le (by omega : (0:Int) ≤ b)
  obtain ⟨k, rfl⟩ := Int.eq_ofNat_of_zero_le (by omega : (0:Int) ≤ c)
  unfold lineOf
  dsimp only
  exact if_neg (h i j k (by omega) (by omega) (by omega))
/-- any three numbers that are different -/
theorem any_of {pts : List (Int × Int)} (h : ∀ i j k : Nat, i < j → j < k → k < pts.length → area (pt pts i) (pt pts j) (pt pts k) ≠ 0) : ∀ i j k : Nat, i < pts.length → j < pts.length → k < pts.length → i ≠ j → k ≠ i → k ≠ j → area (pt pts i) (pt pts j) (pt pts k) ≠ 0 := fun i j k hi hj hk h1 h2 h3 => by
  have sw := area_sw
  have ro := area_ro
  rcases Nat.lt_or_gt_of_ne h1 with a | a <;> rcases Nat.lt_or_gt_of_ne h2 with b | b <;> rcases Nat.lt_or_gt_of_ne h3 with c | c
  · rw [← ro]; rw [← ro]; exact h k i j b a hj
  · omega
  · have := h i k j (by omega) (by omega) hj
    have e := sw (pt pts i) (pt pts k) (pt pts j)
    have e2 := ro (pt pts i) (pt pts j) (pt pts k)
    have e3 := ro (pt pts j) (pt pts k) (pt pts i)
    omega
  · exact h i j k a c hk
  · have := h k j i c a hi
    have e := sw (pt pts k) (pt pts j) (pt pts i)
    have e2 := ro (pt pts i) (pt pts j) (pt pts k)
    have e3 := ro (pt pts j) (pt pts k) (pt pts i)
    omega
  · have := h j k i (by omega) (by omega) hi
    have e2 := ro (pt pts i) (pt pts j) (pt pts k)
    omega
  · omega
  · have := h j i k a (by omega) hk
    have e := sw (pt pts j) (pt pts i) (pt pts k)
    omega
theorem third {n i j : Nat} (h : 3 ≤ n) : ∃ k, k < n ∧ k ≠ i ∧ k ≠ j := by
  by_cases h0 : i = 0 ∨ j = 0
  · by_cases h1 : i = 1 ∨ j = 1
    · exact ⟨2, by omega, by omega, by omega⟩
    · exact ⟨1, by omega, by omega, by omega⟩
  · exact ⟨0, by omega, by omega, by omega⟩
theorem gp_of {pts : List (Int × Int)} (h : onLine pts = none) (hl : pts.length ≤ 10) (h3 : 3 ≤ pts.length) : Gp pts := by
  have key := any_of (asc_of h hl)
  have inj : ∀ i j : Nat, (hi : i < pts.length) → (hj : j < pts.length) → i ≠ j → pts[i] ≠ pts[j] := fun i j hi hj ne e => by
    obtain ⟨k, hk, k1, k2⟩ := third (n := pts.length) (i := i) (j := j) h3
    have := key i j k hi hj hk ne k1 k2
    rw [pt_nat hi, pt_nat hj, e, area_ppq] at this
    exact this rfl
  refine ⟨List.nodup_iff_pairwise_ne.mpr (List.pairwise_iff_getElem.mpr fun i j hi hj hij => inj i j hi hj (by omega)), fun p q r hp hq hr h1 h2 h4 => ?_⟩
  obtain ⟨i, hi, rfl⟩ := List.getElem_of_mem hp
  obtain ⟨j, hj, rfl⟩ := List.getElem_of_mem hq
  obtain ⟨k, hk, rfl⟩ := List.getElem_of_mem hr
  have := key i j k hi hj hk (fun z => h1 (by subst z; rfl)) (fun z => h2 (by subst z; rfl)) (fun z => h4 (by subst z; rfl))
  rw [pt_nat hi, pt_nat hj, pt_nat hk] at this
  exact this
theorem gp_to {pts : List (Int × Int)} (g : Gp pts) (hl : pts.length ≤ 10) : onLine pts = none := by
  refine asc_to hl fun i j k h1 h2 h3 => ?_
  have inj : ∀ i j : Nat, (hi : i < pts.length) → (hj : j < pts.length) → i < j → pts[i] ≠ pts[j] := fun i j hi hj ij => List.pairwise_iff_getElem.mp (List.nodup_iff_pairwise_ne.mp g.nd) i j hi hj ij
  rw [pt_nat (by omega), pt_nat (by omega), pt_nat h3]
  exact g.ne _ _ _ (List.getElem_mem _) (List.getElem_mem _) (List.getElem_mem _) (inj i j (by omega) (by omega) h1) (fun z => inj i k (by omega) h3 (by omega) z.symm) (fun z => inj j k (by omega) h3 h2 z.symm)
def gA (p q r : Int × Int) : Bool := decide (0 < area p q r)
theorem Gp.ori {pts : List (Int × Int)} (g : Gp pts) : DC.Ori pts gA where
  nd := g.nd
  l1 := fun p q => by unfold gA; rw [area_ppr]; rfl
  l2 := fun p q => by unfold gA; rw [area_pqq]; rfl
  op := fun p q r hp hq hr h1 h2 h3 => by
    have := g.ne p q r hp hq hr h1 h2 h3
    unfold gA
    rw [area_sw p q r]
    by_cases h : 0 < area p q r
    · have : ¬ 0 < -area p q r := by omega
      rw [decide_eq_true h, decide_eq_false this]
      rfl
    · have : 0 < -area p q r := by omega
      rw [decide_eq_false h, decide_eq_true this]
      rfl
/-! ### the row as sums -/
theorem S_pts (pts : List (Int × Int)) (f : Int × Int → Nat) : DC.S pts f = DC.S (List.range pts.length) fun i => f (pt pts (i : Int)) := by
  unfold DC.S
  congr 1
  apply List.ext_getElem?
  intro i
  rw [List.getElem?_map, List.getElem?_map]
  by_cases h : i < pts.length
  · rw [List.getElem?_eq_getElem h, List.getElem?_range h, Option.map_some, Option.map_some, pt_nat h]
  · rw [List.getElem?_eq_none (by omega), List.getElem?_eq_none (by rw [List.length_range]; omega)]
    rfl
theorem S_map {α β : Type} (xs : List α) (h : α → β) (f : β → Nat) : DC.S (xs.map h) f = DC.S xs fun x => f (h x) := by
  unfold DC.S
  rw [List.map_map]
  rfl
theorem S_flat {α β : Type} (xs : List α) (h : α → List β) (f : β → Nat) : DC.S (xs.flatMap h) f = DC.S xs fun x => DC.S (h x) f := by
  induction xs with
  | nil => rfl
  | cons a r ih => rw [List.flatMap_cons, DC.S_app, DC.S_cons, ih]
theorem S_rg (n : Nat) (f : Int → Nat) : DC.S (rg 0 n) f = DC.S (List.range n) fun i => f (i : Int) := by
  unfold rg
  rw [S_map]
  exact DC.S_congr fun i _ => by rw [Int.zero_add]
theorem count_S (xs : List Int) (j : Int) : xs.count j = DC.S xs fun x => if x = j then 1 else 0 := by
  induction xs with
  | nil => rfl
  | cons a r ih =>
    rw [List.count_cons, DC.S_cons, ih]
    by_cases h : a = j <;> simp [h]
    omega
theorem leftN_lf (pts : List (Int × Int)) (a b : Int) : (leftN pts a b).length = DC.lf pts gA (pt pts a) (pt pts b) := by
  unfold leftN DC.lf
  rw [DC.S_len, S_pts]
  rfl
def rowN (pts : List (Int × Int)) (n : Nat) : List PyData := (List.range n).map fun j => .int (DC.T pts gA j : Nat)
theorem rowP_eq {pts : List (Int × Int)} (nd : pts.Nodup) : rowP pts = rowN pts (pts.length - 1) := by
  unfold rowP rowN rg
  rw [List.map_map]
  refine List.map_congr_left fun j _ => ?_
  show PyData.int _ = PyData.int _
  congr 2
  show (cnts pts).count (0 + (j : Int)) = _
  rw [Int.zero_add, count_S]
  unfold cnts trip DC.T
  rw [S_map, S_flat, S_rg, S_pts]
  refine DC.S_congr fun a ha => ?_
  rw [S_map, S_pts]
  unfold oth
  rw [DC.S_filter, S_rg]
  refine DC.S_congr fun b hb => ?_
  have ha2 := List.mem_range.mp ha
  have hb2 := List.mem_range.mp hb
  rw [leftN_lf]
  by_cases h : a = b
  · subst h
    simp
  · have e : pt pts (a : Int) ≠ pt pts (b : Int) := by
      rw [pt_nat ha2, pt_nat hb2]
      intro z
      rcases Nat.lt_or_gt_of_ne h with y | y
      · exact List.pairwise_iff_getElem.mp (List.nodup_iff_pairwise_ne.mp nd) a b ha2 hb2 y z
      · exact List.pairwise_iff_getElem.mp (List.nodup_iff_pairwise_ne.mp nd) b a hb2 ha2 y z.symm
    have h2 : ¬ b = a := fun z => h z.symm
    simp only [e, h2, ne_eq, not_false_eq_true, true_and, Int.natCast_inj, decide_false, Bool.not_false, if_true]
end K11

namespace K11
open PySem PySem.Spec PyProof.Rows L2 Evl EB PySem.W
/-! ### choose, is_within, inner pairs -/
def args_choose {K : PySem.W.Frag} {mg : Str → Option Value} (T : Tx K mg) : Int × Int → List PV := fun a => [dv K (.int a.1), dv K (.int a.2)]
def dom_choose : Int × Int → Prop := fun a => (0 ≤ a.1 ∧ a.1 ≤ 60) ∧ 0 ≤ a.2 ∧ a.2 ≤ 60
def out_choose {K : PySem.W.Frag} {mg : Str → Option Value} (T : Tx K mg) : Int × Int → Out := fun a => .ok (dv K (.int (mcComb a.1 a.2)))
theorem inR_of {lo v hi : Int} (h1 : lo ≤ v) (h2 : v ≤ hi) : inR lo v hi = true := by
  unfold inR
  simp [h1, h2]
theorem je_range {K : PySem.W.Frag} {mg : Str → Option Value} (T : Tx K mg) {W : WX} {ps : Kn} {t1 t2 t3 : TE} {v lo hi : Int} (h1 : JD K T.M W t1 ps (.int v)) (h2 : JD K T.M W t2 ps (.int lo)) (h3 : JD K T.M W t3 ps (.int hi)) (hr : inR lo v hi = true) : JD K T.M W (tCallS (Prm K T.M (args_check_range T) dom_check_range (out_check_range T)) (WE W) (tCons t1 (tCons t2 (tCons t3 tNil)))) ps .none := by
  have := je_call (args := args_check_range T) (dom := dom_check_range) (out := out_check_range T) (v, lo, hi) (ja_cons h1 (ja_cons h2 (ja_cons h3 ja_nil))) trivial
  have e : out_check_range T (v, lo, hi) = .ok (dv K .none) := by
    unfold out_check_range
    dsimp only
    rw [hr]
  rw [e] at this
  exact this
theorem ok_choose {P : Program} {w : World} {K : PySem.W.Frag} {mg : Str → Option Value} {base : Heap} (T : Tx K mg) : FnOk P w K mg base (L2.CX P w) 4 T.a_choose T.fd_choose ["n", "k"] (Prm K T.M (args_choose T) dom_choose (out_choose T)) := by
  refine T.F_choose.okX sc_choose (fun vs H Q E h => by obtain ⟨a, F, _, al, _⟩ := h; exact al.length) (fun cdv A outer s H vs Q E hr h => ?_)
  have tk : Takes (cxOf (L2.CX P w) P w K mg base N_choose "choose" (defScope s_choose) T.a_choose cdv A outer s H E) (fun cls d _ H => E cls d H) := takes_of rfl rfl rfl rfl
  obtain ⟨a, F, fh, al, hd, th⟩ := h
  refine ⟨_, (pss_cons (ps_expr (pe_callS (ok_check_range T) (hr.mono (by decide)) (by rfl) T.g_check_range T.F_check_range.kp (b_check_range T) (fun σ => passAt tk σ) (pa_cons (pv 0) (pa_cons pe_int (pa_cons pe_int pa_nil)))))
      (pss_cons (ps_expr (pe_callS (ok_check_range T) (hr.mono (by decide)) (by rfl) T.g_check_range T.F_check_range.kp (b_check_range T) (fun σ => passAt tk σ) (pa_cons (pv 1) (pa_cons (pe_un un_neg pe_int) (pa_cons pe_int pa_nil)))))
      (pss_one (ps_ret (pe_ifExp (pt_cmpR op_ge (pv 1) pe_int (nomark _)) (pe_callG (id := "math.comb") cr_comb (by rfl) T.g_comb (pa_cons (pv 0) (pa_cons (pv 1) pa_nil))) pe_int))))), ?_⟩
  obtain ⟨n, k⟩ := a
  obtain ⟨⟨h1, h2⟩, h3, h4⟩ := hd
  simp only at h1 h2 h3 h4
  exact fin_ok (r := .rt (dv K (.int (mcComb n k)))) (js_seq (js_drop (je_range T (je_var (i := 0) rfl) je_int je_int (inR_of h1 h2))) (js_seq (js_drop (je_range T (je_var (i := 1) rfl) (je_neg je_int) je_int (inR_of (by omega) h4)))
    (js_ret (je_if (b := true) (jt_is (jt_test (je_ge (je_var (i := 1) rfl) je_int)) (decide_eq_true h3)) (fun _ => je_comb (je_var (i := 0) rfl) (je_var (i := 1) rfl) h1 h3 (by omega) (.inl (by omega))) (fun z => Bool.noConfusion z))))) (by exact rfl) fh al th
abbrev Pt := Int × Int
def args_is_within {K : PySem.W.Frag} {mg : Str → Option Value} (T : Tx K mg) : Pt × Pt × Pt × Pt → List PV := fun a => [dv K (pD a.1), dv K (pD a.2.1), dv K (pD a.2.2.1), dv K (pD a.2.2.2)]
def dom_is_within : Pt × Pt × Pt × Pt → Prop := fun a => near a.1 ∧ near a.2.1 ∧ near a.2.2.1 ∧ near a.2.2.2
def out_is_within {K : PySem.W.Frag} {mg : Str → Option Value} (T : Tx K mg) : Pt × Pt × Pt × Pt → Out := fun a => .ok (dv K (.bool (FV.wi gA a.1 a.2.1 a.2.2.1 a.2.2.2)))
theorem je_bare {K : PySem.W.Frag} {mg : Str → Option Value} (T : Tx K mg) {W : WX} {ps : Kn} {t1 t2 t3 : TE} {p q r : Pt} (h1 : JD K T.M W t1 ps (pD p)) (h2 : JD K T.M W t2 ps (pD q)) (h3 : JD K T.M W t3 ps (pD r)) (n1 : near p) (n2 : near q) (n3 : near r) : JD K T.M W (tOp (rI0 fun i j => .bl (decide (j < i))) (tCallS (Prm K T.M (args_bare_area T) dom_bare_area (out_bare_area T)) (WE W) (tCons t1 (tCons t2 (tCons t3 tNil)))) (tC (.int 0))) ps (.bool (gA p q r)) :=
  je_gt (je_call (args := args_bare_area T) (dom := dom_bare_area) (out := out_bare_area T) (p, q, r) (ja_cons h1 (ja_cons h2 (ja_cons h3 ja_nil))) ⟨n1, n2, n3⟩) je_int
theorem je_lawA {K : PySem.W.Frag} {mg : Str → Option Value} (T : Tx K mg) {W : WX} {ps : Kn} {t1 t2 t3 : TE} {p q r : Pt} (h1 : JD K T.M W t1 ps (pD p)) (h2 : JD K T.M W t2 ps (pD q)) (h3 : JD K T.M W t3 ps (pD r)) (n1 : near p) (n2 : near q) (n3 : near r) : JD K T.M W (tOp (rI0 fun i j => .bl (decide (j < i))) (tCallS (Prm K T.M (args__law_area T) dom__law_area (out__law_area T)) (WE W) (tCons t1 (tCons t2 (tCons t3 tNil)))) (tC (.int 0))) ps (.bool (gA p q r)) :=
  je_gt (je_call (args := args__law_area T) (dom := dom__law_area) (out := out__law_area T) (p, q, r) (ja_cons h1 (ja_cons h2 (ja_cons h3 ja_nil))) ⟨n1, n2, n3⟩) je_int
theorem ok_is_within {P : Program} {w : World} {K : PySem.W.Frag} {mg : Str → Option Value} {base : Heap} (T : Tx K mg) : FnOk P w K mg base (L2.CX P w) 2 T.a_is_within T.fd_is_within ["p", "q", "r", "s"] (Prm K T.M (args_is_within T) dom_is_within (out_is_within T)) := by
  refine T.F_is_within.okX sc_is_within (fun vs H Q E h => by obtain ⟨a, F, _, al, _⟩ := h; exact al.length) (fun cdv A outer s H vs Q E hr h => ?_)
  have tk : Takes (cxOf (L2.CX P w) P w K mg base N_is_within "is_within" (defScope s_is_within) T.a_is_within cdv A outer s H E) (fun cls d _ H => E cls d H) := takes_of rfl rfl rfl rfl
  obtain ⟨a, F, fh, al, hd, th⟩ := h
  refine ⟨_, (pss_one (ps_ret (pe_chain op_eq op_eq (pe_cmpR op_gt (pe_callS (ok_bare_area T) (hr.mono (by decide)) (by rfl) T.g_bare_area T.F_bare_area.kp (b_bare_area T) (fun σ => passAt tk σ) (pa_cons (pv 0) (pa_cons (pv 1) (pa_cons (pv 3) pa_nil)))) pe_int (nomark _)) (pe_cmpR op_gt (pe_callS (ok_bare_area T) (hr.mono (by decide)) (by rfl) T.g_bare_area T.F_bare_area.kp (b_bare_area T) (fun σ => passAt tk σ) (pa_cons (pv 1) (pa_cons (pv 2) (pa_cons (pv 3) pa_nil)))) pe_int (nomark _)) (pe_cmpR op_gt (pe_callS (ok_bare_area T) (hr.mono (by decide)) (by rfl) T.g_bare_area T.F_bare_area.kp (b_bare_area T) (fun σ => passAt tk σ) (pa_cons (pv 2) (pa_cons (pv 0) (pa_cons (pv 3) pa_nil)))) pe_int (nomark _))))), ?_⟩
  obtain ⟨p, q, r, s0⟩ := a
  obtain ⟨h1, h2, h3, h4⟩ := hd
  exact fin_ok (r := .rt (dv K (.bool (FV.wi gA p q r s0)))) (js_ret (je_chainB (je_bare T (je_var (i := 0) rfl) (je_var (i := 1) rfl) (je_var (i := 3) rfl) h1 h2 h4) (je_bare T (je_var (i := 1) rfl) (je_var (i := 2) rfl) (je_var (i := 3) rfl) h2 h3 h4) (je_bare T (je_var (i := 2) rfl) (je_var (i := 0) rfl) (je_var (i := 3) rfl) h3 h1 h4))) (by exact rfl) fh al th
def arT (pts : List Pt) (a b c d : Int) : Bool := FV.wi gA (pt pts a) (pt pts b) (pt pts c) (pt pts d)
def args_is_around {K : PySem.W.Frag} {mg : Str → Option Value} (T : Tx K mg) : List Pt × Int × Int × Int × Int → List PV := fun a => [ob1 K T.a_Floor "points" (.tuple (a.1.map pD)), dv K (tupI [a.2.1, a.2.2.1, a.2.2.2.1]), dv K (.int a.2.2.2.2)]
def dom_is_around : List Pt × Int × Int × Int × Int → Prop := fun a => (∀ p ∈ a.1, near p) ∧ isNo a.2.1 a.1.length = true ∧ isNo a.2.2.1 a.1.length = true ∧ isNo a.2.2.2.1 a.1.length = true ∧ isNo a.2.2.2.2 a.1.length = true
def out_is_around {K : PySem.W.Frag} {mg : Str → Option Value} (T : Tx K mg) : List Pt × Int × Int × Int × Int → Out := fun a => .ok (dv K (.bool (arT a.1 a.2.1 a.2.2.1 a.2.2.2.1 a.2.2.2.2)))
theorem ok_is_around {P : Program} {w : World} {K : PySem.W.Frag} {mg : Str → Option Value} {base : Heap} (T : Tx K mg) : FnOk P w K mg base (L2.CX P w) 3 T.a_is_around T.fd_is_around ["floor", "three", "number"] (Prm K T.M (args_is_around T) dom_is_around (out_is_around T)) := by
  refine T.F_is_around.okX sc_is_around (fun vs H Q E h => by obtain ⟨a, F, _, al, _⟩ := h; exact al.length) (fun cdv A outer s H vs Q E hr h => ?_)
  have tk : Takes (cxOf (L2.CX P w) P w K mg base N_is_around "is_around" (defScope s_is_around) T.a_is_around cdv A outer s H E) (fun cls d _ H => E cls d H) := takes_of rfl rfl rfl rfl
  obtain ⟨a, F, fh, al, hd, th⟩ := h
  refine ⟨_, (pss_cons (ps_asg (pv 1) (pg_tup rfl (pgs_cons (pg_name (i := 3) sc_is_around.nd rfl (by first | exact Or.inl rfl | exact Or.inr rfl)) (pgs_cons (pg_name (i := 4) sc_is_around.nd rfl (by first | exact Or.inl rfl | exact Or.inr rfl)) (pgs_cons (pg_name (i := 5) sc_is_around.nd rfl (by first | exact Or.inl rfl | exact Or.inr rfl)) pgs_nil)))))
      (pss_one (ps_ret (pe_callS (ok_is_within T) (hr.mono (by decide)) (by rfl) T.g_is_within T.F_is_within.kp (b_is_within T) (fun σ => passAt tk σ) (pa_cons (pe_ix ix_tup (pe_fld (pv 0) rfl) (pv 3) (fun _ _ => rfl)) (pa_cons (pe_ix ix_tup (pe_fld (pv 0) rfl) (pv 4) (fun _ _ => rfl)) (pa_cons (pe_ix ix_tup (pe_fld (pv 0) rfl) (pv 5) (fun _ _ => rfl)) (pa_cons (pe_ix ix_tup (pe_fld (pv 0) rfl) (pv 2) (fun _ _ => rfl)) pa_nil)))))))), ?_⟩
  obtain ⟨pts, u, v, w0, d⟩ := a
  obtain ⟨hn, h1, h2, h3, h4⟩ := hd
  have pf : ∀ ps : Kn, ps[0]? = some (some (ob1 K T.a_Floor "points" (.tuple (pts.map pD)))) → JD K T.M (fun cls d _ H => E cls d H) (tFld K (tVar 0) "points") ps (.tuple (pts.map pD)) := fun ps h => je_pts T (je_var (i := 0) h)
  exact fin_ok (r := .rt (dv K (.bool (arT pts u v w0 d)))) (js_seq (js_asg (vs := [3, 4, 5]) (je_var (i := 1) rfl) (jg_tup (ds := [.int u, .int v, .int w0]) (jgs_cons jg_name (jgs_cons jg_name (jgs_cons jg_name jgs_nil)))))
    (js_ret (je_call (args := args_is_within T) (dom := dom_is_within) (out := out_is_within T) (pt pts u, pt pts v, pt pts w0, pt pts d) (ja_cons (je_ixT (pf _ rfl) (je_var (i := 3) rfl) (at_pt h1)) (ja_cons (je_ixT (pf _ rfl) (je_var (i := 4) rfl) (at_pt h2)) (ja_cons (je_ixT (pf _ rfl) (je_var (i := 5) rfl) (at_pt h3)) (ja_cons (je_ixT (pf _ rfl) (je_var (i := 2) rfl) (at_pt h4)) ja_nil)))) ⟨near_pt hn _, near_pt hn _, near_pt hn _, near_pt hn _⟩))) (by exact rfl) fh al th
/-- d is within the triangle t, a number of its own -/
def inT (pts : List Pt) (t : List Int) (d : Int) : Bool := !t.contains d && match t with
  | [a, b, c] => arT pts a b c d
  | _ => false
def prsI (pts : List Pt) : List (List Int × Int) := (subsL pts.length 3).flatMap fun t => ((rg 0 pts.length).filter (inT pts t)).map fun d => (t, d)
def encP (x : List Int × Int) : PyData := .tuple [tupI x.1, .int x.2]
theorem prsI_map (pts : List Pt) : (prsI pts).map encP = (subsL pts.length 3).flatMap fun t => ((rg 0 pts.length).filter (inT pts t)).map fun d => encP (t, d) := by
  unfold prsI
  rw [List.map_flatMap]
  congr 1
  funext t
  rw [List.map_map]
  rfl
theorem prsI_len {pts : List Pt} (h : pts.length ≤ 10) : (prsI pts).length ≤ 3000 := by
  have h1 := flatMap_le (fun t => ((rg 0 pts.length).filter (inT pts t)).map fun d => (t, d)) 10 (subsL pts.length 3) fun t _ => by
    rw [List.length_map]
    have := List.length_filter_le (inT pts t) (rg 0 pts.length)
    rw [rg_length] at this
    omega
  have h2 := (subs_small pts.length (by omega) 3 (by omega)).1
  unfold prsI
  omega
def args_inner_pairs {K : PySem.W.Frag} {mg : Str → Option Value} (T : Tx K mg) : List Pt → List PV := args_Floor___len__ T
def dom_inner_pairs : List Pt → Prop := fun a => a.length ≤ 10 ∧ ∀ p ∈ a, near p
def out_inner_pairs : List Pt → List PyData := fun a => (prsI a).map encP
theorem ok_inner_pairs {P : Program} {w : World} {K : PySem.W.Frag} {mg : Str → Option Value} {base : Heap} (T : Tx K mg) : FnOk P w K mg base (L2.CX P w) 4 T.a_inner_pairs T.fd_inner_pairs ["floor"] (PrmN K (args_inner_pairs T) dom_inner_pairs out_inner_pairs) := by
  refine T.F_inner_pairs.okX sc_inner_pairs (fun vs H Q E h => by obtain ⟨a, F, _, al, _⟩ := h; exact al.length) (fun cdv A outer s H vs Q E hr h => ?_)
  have tk : Takes (cxOf (L2.CX P w) P w K mg base N_inner_pairs "inner_pairs" (defScope s_inner_pairs) T.a_inner_pairs cdv A outer s H E) (fun cls d _ H => E cls d H) := takes_of rfl rfl rfl rfl
  obtain ⟨a, F, fh, al, hd, th⟩ := h
  refine ⟨_, (pss_cons (ps_set (i := 1) sc_inner_pairs.nd rfl (by first | exact Or.inl rfl | exact Or.inr rfl) (pe_callB (call_lenOwn (ok_Floor___len__ T) (hr.mono (by decide)) T.m_Floor___len__.1 T.m_Floor___len__.2 (b_Floor___len__ T) passF) (by rfl) T.z_len PySem.boot_len (pa_cons (pv 0) pa_nil)))
      (pss_one (ps_ret (pe_lc2 (own := [("three", 2), ("number", 3)]) (g := (gName 2)) (tt := tYes) (te := (tTup (tCons (tVar 2) (tCons (tVar 3) tNil)))) (wi1 := (iRng1 (tCons (tVar 1) tNil))) (g1 := (gName 3)) (tt1 := (tAnd (tTest (tOp (rIn K true) (tVar 3) (tVar 2))) (tB (tCallS (Prm K T.M (args_is_around T) dom_is_around (out_is_around T)) (WE fun _ _ _ _ => False) (tCons (tVar 0) (tCons (tVar 2) (tCons (tVar 3) tNil))))))) (vs1 := [3]) rfl sc_inner_pairs.nd (pi_list (pe_callS (ok_subset_list T) (hr.mono (by decide)) (by rfl) T.g_subset_list T.F_subset_list.kp (b_subset_list T) (fun σ => passAt tk σ) (pa_cons (pv 1) (pa_cons pe_int pa_nil)))) (blkOk_by (N := N_inner_pairs) (sc := defScope s_inner_pairs) (own := [("three", 2), ("number", 3)]) (by decide +kernel)) (by decide) (fun _ _ _ _ _ => (pg_name (i := 2) sc_inner_pairs.nd rfl (by first | exact Or.inl rfl | exact Or.inr rfl))) (fun _ _ _ _ _ => by exact pts_nil) (fun _ _ _ _ _ => by exact (pi_range1 (by rfl) T.z_range (pa_cons (pv 1) pa_nil))) (fun _ _ _ _ _ => (pg_name (i := 3) sc_inner_pairs.nd rfl (by first | exact Or.inl rfl | exact Or.inr rfl))) (fun _ _ _ _ _ => pts_one (PW.pt (pw_and (pt_cmpR op_notIn_seq (pv 3) (pv 2) (by rfl)) (pw_and1 (pt_val (pe_callS (ok_is_around T) (hr.mono (by decide)) (by rfl) T.g_is_around T.F_is_around.kp (b_is_around T) (fun σ => passAt takes0 σ) (pa_cons (pv 0) (pa_cons (pv 2) (pa_cons (pv 3) pa_nil))))))))) (fun _ _ _ _ _ => by exact (pe_tup (pa_cons (pv 2) (pa_cons (pv 3) pa_nil)))))))), ?_⟩
  obtain ⟨hl, hn⟩ := hd
  refine fin_new1 (M := T.M) (W := fun cls d _ H => E cls d H) (js_set (i := 1) (je_lenF T (je_var (i := 0) rfl) (by omega))) (jn_is ?_ (prsI_map a).symm) fh al th
  refine jn_lc2 (M := T.M) (W := fun cls d _ H => E cls d H) (W' := fun _ _ _ _ => False) (subsL a.length 3) (fun _ => rg 0 a.length) tupI .int (inT a) (fun t d => encP (t, d)) (ji_list (je_call (args := args_subset_list T) (dom := dom_subset_list) (out := out_subset_list T) (a.length, 3) (ja_cons (je_var (i := 1) rfl) (ja_cons je_int ja_nil)) ⟨hl, (show (3:Nat) ≤ 4 by decide)⟩)) ?_ fun t ht => ?_
  · rw [← prsI_map, List.length_map]
    have := prsI_len hl
    omega
  · have hx := List.all_eq_true.mp (subs3 a.length (by omega)) _ ht
    match t, hx with
    | [u, v, z], hx =>
      simp only [Bool.and_eq_true] at hx
      obtain ⟨⟨h1, h2⟩, h3⟩ := hx
      refine ⟨_, jg_name, jt_yes, ji_upto (je_var (i := 1) rfl) (by omega), fun d hd => ⟨_, jg_name, ?_, fun _ => je_tup (ds := [tupI [u, v, z], .int d]) (ja_cons (je_var (i := 2) rfl) (ja_cons (je_var (i := 3) rfl) ja_nil))⟩⟩
      have hd2 := rg_mem hd
      have h4 : isNo d a.length = true := by unfold isNo; simp; omega
      exact jt_and (jt_test (je_notInT (ns := [u, v, z]) (je_var (i := 3) rfl) (je_var (i := 2) rfl))) fun _ => jt_B (je_call (args := args_is_around T) (dom := dom_is_around) (out := out_is_around T) (a, u, v, z, d) (ja_cons (je_var (i := 0) rfl) (ja_cons (je_var (i := 2) rfl) (ja_cons (je_var (i := 3) rfl) ja_nil))) ⟨hn, h1, h2, h3, h4⟩)
def cfI (pts : List Pt) : Int := mcComb pts.length 4 - (prsI pts).length
def args_convex_fours {K : PySem.W.Frag} {mg : Str → Option Value} (T : Tx K mg) : List Pt → List PV := args_Floor___len__ T
def dom_convex_fours : List Pt → Prop := dom_inner_pairs
def out_convex_fours {K : PySem.W.Frag} {mg : Str → Option Value} (T : Tx K mg) : List Pt → Out := fun a => .ok (dv K (.int (cfI a)))
theorem ok_convex_fours {P : Program} {w : World} {K : PySem.W.Frag} {mg : Str → Option Value} {base : Heap} (T : Tx K mg) : FnOk P w K mg base (L2.CX P w) 5 T.a_convex_fours T.fd_convex_fours ["floor"] (Prm K T.M (args_convex_fours T) dom_convex_fours (out_convex_fours T)) := by
  refine T.F_convex_fours.okX sc_convex_fours (fun vs H Q E h => by obtain ⟨a, F, _, al, _⟩ := h; exact al.length) (fun cdv A outer s H vs Q E hr h => ?_)
  have tk : Takes (cxOf (L2.CX P w) P w K mg base N_convex_fours "convex_fours" (defScope s_convex_fours) T.a_convex_fours cdv A outer s H E) (fun cls d _ H => E cls d H) := takes_of rfl rfl rfl rfl
  obtain ⟨a, F, fh, al, hd, th⟩ := h
  refine ⟨_, (pss_one (ps_ret (pe_op op_sub (pe_callS (ok_choose T) (hr.mono (by decide)) (by rfl) T.g_choose T.F_choose.kp (b_choose T) (fun σ => passAt tk σ) (pa_cons (pe_callB (call_lenOwn (ok_Floor___len__ T) (hr.mono (by decide)) T.m_Floor___len__.1 T.m_Floor___len__.2 (b_Floor___len__ T) passF) (by rfl) T.z_len PySem.boot_len (pa_cons (pv 0) pa_nil)) (pa_cons pe_int pa_nil))) (pe_callB call_len_seq (by rfl) T.z_len PySem.boot_len (pa_cons (pe_callS (ok_inner_pairs T) (hr.mono (by decide)) (by rfl) T.g_inner_pairs T.F_inner_pairs.kp (b_inner_pairs T) (fun σ => passAt tk σ) (pa_cons (pv 0) pa_nil)) pa_nil))))), ?_⟩
  obtain ⟨hl, hn⟩ := hd
  exact fin_ok (r := .rt (dv K (.int (cfI a)))) (js_ret (je_sub (je_call (args := args_choose T) (dom := dom_choose) (out := out_choose T) (a.length, 4) (ja_cons (je_lenF T (je_var (i := 0) rfl) (by omega)) (ja_cons je_int ja_nil)) ⟨⟨by dsimp only; omega, by dsimp only; omega⟩, show (0 : Int) ≤ 4 by decide, show (4 : Int) ≤ 60 by decide⟩)
    (je_is (je_lenL (jn_told (M := T.M) (W := fun cls d _ H => E cls d H) (jn_call (M := T.M) (W := fun cls d _ H => E cls d H) (args := args_inner_pairs T) (dom := dom_inner_pairs) (out := out_inner_pairs) a (ja_cons (je_var (i := 0) rfl) ja_nil) ⟨hl, hn⟩))) (by unfold out_inner_pairs; rw [List.length_map])))) (by exact rfl) fh al th
end K11

namespace K11
open PySem PySem.Spec PyProof.Rows L2 Evl EB PySem.W
/-! ### four points -/
def gN (pts : List Pt) (a b c : Int) : Bool := gA (pt pts a) (pt pts b) (pt pts c)
theorem arT_g (pts : List Pt) (a b c d : Int) : arT pts a b c d = ((gN pts a b d == gN pts b c d) && (gN pts b c d == gN pts c a d)) := rfl
theorem gN_aba (pts : List Pt) (a b : Int) : gN pts a b a = false := by
  unfold gN gA
  rw [area_ppr]
  rfl
theorem gN_abb (pts : List Pt) (a b : Int) : gN pts a b b = false := by
  unfold gN gA
  rw [area_pqq]
  rfl
theorem gN_aab (pts : List Pt) (a b : Int) : gN pts a a b = false := by
  unfold gN gA
  rw [area_ppq]
  rfl
theorem gN_ro (pts : List Pt) (a b c : Int) : gN pts b c a = gN pts a b c := by
  unfold gN gA
  rw [area_ro]
def inR2 (pts : List Pt) (x : Int) : Prop := 0 ≤ x ∧ x < pts.length
theorem pt_inj {pts : List Pt} (g : Gp pts) {x y : Int} (hx : inR2 pts x) (hy : inR2 pts y) (ne : x ≠ y) : pt pts x ≠ pt pts y := fun e => by
  obtain ⟨i, rfl⟩ := Int.eq_ofNat_of_zero_le hx.1
  obtain ⟨j, rfl⟩ := Int.eq_ofNat_of_zero_le hy.1
  have hx2 := hx.2
  have hy2 := hy.2
  rw [pt_nat (by omega), pt_nat (by omega)] at e
  rcases Nat.lt_trichotomy i j with z | z | z
  · exact List.pairwise_iff_getElem.mp (List.nodup_iff_pairwise_ne.mp g.nd) i j (by omega) (by omega) z e
  · omega
  · exact List.pairwise_iff_getElem.mp (List.nodup_iff_pairwise_ne.mp g.nd) j i (by omega) (by omega) z e.symm
theorem gN_sw {pts : List Pt} (g : Gp pts) {x y z : Int} (hx : inR2 pts x) (hy : inR2 pts y) (hz : inR2 pts z) (h1 : x ≠ y) (h2 : z ≠ x) (h3 : z ≠ y) : gN pts y x z = !gN pts x y z := g.ori.op (pt pts x) (pt pts y) (pt pts z) (pt_mem hx) (pt_mem hy) (pt_mem hz) (pt_inj g hx hy h1) (pt_inj g hz hx h2) (pt_inj g hz hy h3)
def sg4 (D C B A : Bool) : Bool := !(D && !C && B && !A) && !(!D && C && !B && A)
theorem sg_area (p q r s : Pt) : area p q r - area p q s + area p r s - area q r s = 0 := by
  unfold area
  grind
theorem sg_ok (pts : List Pt) (a b c d : Int) : sg4 (gN pts a b c) (gN pts a b d) (gN pts a c d) (gN pts b c d) = true := by
  have h := sg_area (pt pts a) (pt pts b) (pt pts c) (pt pts d)
  unfold gN gA sg4
  by_cases h1 : 0 < area (pt pts a) (pt pts b) (pt pts c) <;> by_cases h2 : 0 < area (pt pts a) (pt pts b) (pt pts d) <;> by_cases h3 : 0 < area (pt pts a) (pt pts c) (pt pts d) <;> by_cases h4 : 0 < area (pt pts b) (pt pts c) (pt pts d) <;> simp [h1, h2, h3, h4] <;> omega
/-- the signs of four numbers -/
structure Sg (pts : List Pt) (a b c d : Int) : Prop where
  ok : sg4 (gN pts a b c) (gN pts a b d) (gN pts a c d) (gN pts b c d) = true
  e_acb : gN pts a c b = !gN pts a b c
  e_adb : gN pts a d b = !gN pts a b d
  e_adc : gN pts a d c = !gN pts a c d
  e_bac : gN pts b a c = !gN pts a b c
  e_bad : gN pts b a d = !gN pts a b d
  e_bca : gN pts b c a = gN pts a b c
  e_bda : gN pts b d a = gN pts a b d
  e_bdc : gN pts b d c = !gN pts b c d
  e_cab : gN pts c a b = gN pts a b c
  e_cad : gN pts c a d = !gN pts a c d
  e_cba : gN pts c b a = !gN pts a b c
  e_cbd : gN pts c b d = !gN pts b c d
  e_cda : gN pts c d a = gN pts a c d
  e_cdb : gN pts c d b = gN pts b c d
  e_dab : gN pts d a b = gN pts a b d
  e_dac : gN pts d a c = gN pts a c d
  e_dba : gN pts d b a = !gN pts a b d
  e_dbc : gN pts d b c = gN pts b c d
  e_dca : gN pts d c a = !gN pts a c d
  e_dcb : gN pts d c b = !gN pts b c d
structure D4 (pts : List Pt) (a b c d : Int) : Prop where
  ra : inR2 pts a
  rb : inR2 pts b
  rc : inR2 pts c
  rd : inR2 pts d
  ab : a ≠ b
  ac : a ≠ c
  ad : a ≠ d
  bc : b ≠ c
  bd : b ≠ d
  cd : c ≠ d
theorem D4.sg {pts : List Pt} (g : Gp pts) {a b c d : Int} (h : D4 pts a b c d) : Sg pts a b c d where
  ok := sg_ok pts a b c d
  e_acb := by rw [gN_ro pts b a c]; exact gN_sw g h.ra h.rb h.rc h.ab h.ac.symm h.bc.symm
  e_adb := by rw [gN_ro pts b a d]; exact gN_sw g h.ra h.rb h.rd h.ab h.ad.symm h.bd.symm
  e_adc := by rw [gN_ro pts c a d]; exact gN_sw g h.ra h.rc h.rd h.ac h.ad.symm h.cd.symm
  e_bac := gN_sw g h.ra h.rb h.rc h.ab h.ac.symm h.bc.symm
  e_bad := gN_sw g h.ra h.rb h.rd h.ab h.ad.symm h.bd.symm
  e_bca := gN_ro pts a b c
  e_bda := gN_ro pts a b d
  e_bdc := by rw [gN_ro pts c b d]; exact gN_sw g h.rb h.rc h.rd h.bc h.bd.symm h.cd.symm
  e_cab := by rw [gN_ro pts b c a, gN_ro pts a b c]
  e_cad := gN_sw g h.ra h.rc h.rd h.ac h.ad.symm h.cd.symm
  e_cba := by rw [gN_ro pts a c b, gN_ro pts b a c]; exact gN_sw g h.ra h.rb h.rc h.ab h.ac.symm h.bc.symm
  e_cbd := gN_sw g h.rb h.rc h.rd h.bc h.bd.symm h.cd.symm
  e_cda := gN_ro pts a c d
  e_cdb := gN_ro pts b c d
  e_dab := by rw [gN_ro pts b d a, gN_ro pts a b d]
  e_dac := by rw [gN_ro pts c d a, gN_ro pts a c d]
  e_dba := by rw [gN_ro pts a d b, gN_ro pts b a d]; exact gN_sw g h.ra h.rb h.rd h.ab h.ad.symm h.bd.symm
  e_dbc := by rw [gN_ro pts c d b, gN_ro pts b c d]
  e_dca := by rw [gN_ro pts a d c, gN_ro pts c a d]; exact gN_sw g h.ra h.rc h.rd h.ac h.ad.symm h.cd.symm
  e_dcb := by rw [gN_ro pts b d c, gN_ro pts c b d]; exact gN_sw g h.rb h.rc h.rd h.bc h.bd.symm h.cd.symm
theorem ar_sw {pts : List Pt} {a b c d : Int} (s : Sg pts a b c d) : arT pts b a c d = arT pts a b c d := by
  have o := s.ok
  simp only [arT_g, gN_aba, gN_abb, gN_aab, s.e_acb, s.e_adb, s.e_adc, s.e_bac, s.e_bad, s.e_bca, s.e_bda, s.e_bdc, s.e_cab, s.e_cad, s.e_cba, s.e_cbd, s.e_cda, s.e_cdb, s.e_dab, s.e_dac, s.e_dba, s.e_dbc, s.e_dca, s.e_dcb]
  generalize gN pts a b c = D at *
  generalize gN pts a b d = C at *
  generalize gN pts a c d = B at *
  generalize gN pts b c d = A at *
  clear s
  revert o
  revert D C B A
  decide
theorem ar_ro {pts : List Pt} {a b c d : Int} (s : Sg pts a b c d) : arT pts b c a d = arT pts a b c d := by
  have o := s.ok
  simp only [arT_g, gN_aba, gN_abb, gN_aab, s.e_acb, s.e_adb, s.e_adc, s.e_bac, s.e_bad, s.e_bca, s.e_bda, s.e_bdc, s.e_cab, s.e_cad, s.e_cba, s.e_cbd, s.e_cda, s.e_cdb, s.e_dab, s.e_dac, s.e_dba, s.e_dbc, s.e_dca, s.e_dcb]
  generalize gN pts a b c = D at *
  generalize gN pts a b d = C at *
  generalize gN pts a c d = B at *
  generalize gN pts b c d = A at *
  clear s
  revert o
  revert D C B A
  decide
theorem ar_acb {pts : List Pt} {a b c d : Int} (s : Sg pts a b c d) : arT pts a c b d = arT pts a b c d := by
  have o := s.ok
  simp only [arT_g, gN_aba, gN_abb, gN_aab, s.e_acb, s.e_adb, s.e_adc, s.e_bac, s.e_bad, s.e_bca, s.e_bda, s.e_bdc, s.e_cab, s.e_cad, s.e_cba, s.e_cbd, s.e_cda, s.e_cdb, s.e_dab, s.e_dac, s.e_dba, s.e_dbc, s.e_dca, s.e_dcb]
  generalize gN pts a b c = D at *
  generalize gN pts a b d = C at *
  generalize gN pts a c d = B at *
  generalize gN pts b c d = A at *
  clear s
  revert o
  revert D C B A
  decide
theorem ar_cab {pts : List Pt} {a b c d : Int} (s : Sg pts a b c d) : arT pts c a b d = arT pts a b c d := by
  have o := s.ok
  simp only [arT_g, gN_aba, gN_abb, gN_aab, s.e_acb, s.e_adb, s.e_adc, s.e_bac, s.e_bad, s.e_bca, s.e_bda, s.e_bdc, s.e_cab, s.e_cad, s.e_cba, s.e_cbd, s.e_cda, s.e_cdb, s.e_dab, s.e_dac, s.e_dba, s.e_dbc, s.e_dca, s.e_dcb]
  generalize gN pts a b c = D at *
  generalize gN pts a b d = C at *
  generalize gN pts a c d = B at *
  generalize gN pts b c d = A at *
  clear s
  revert o
  revert D C B A
  decide
theorem ar_cba {pts : List Pt} {a b c d : Int} (s : Sg pts a b c d) : arT pts c b a d = arT pts a b c d := by
  have o := s.ok
  simp only [arT_g, gN_aba, gN_abb, gN_aab, s.e_acb, s.e_adb, s.e_adc, s.e_bac, s.e_bad, s.e_bca, s.e_bda, s.e_bdc, s.e_cab, s.e_cad, s.e_cba, s.e_cbd, s.e_cda, s.e_cdb, s.e_dab, s.e_dac, s.e_dba, s.e_dbc, s.e_dca, s.e_dcb]
  generalize gN pts a b c = D at *
  generalize gN pts a b d = C at *
  generalize gN pts a c d = B at *
  generalize gN pts b c d = A at *
  clear s
  revert o
  revert D C B A
  decide
theorem ar_u1 {pts : List Pt} {a b c d : Int} (s : Sg pts a b c d) : (arT pts b c d a && arT pts a c d b) = false := by
  have o := s.ok
  simp only [arT_g, gN_aba, gN_abb, gN_aab, s.e_acb, s.e_adb, s.e_adc, s.e_bac, s.e_bad, s.e_bca, s.e_bda, s.e_bdc, s.e_cab, s.e_cad, s.e_cba, s.e_cbd, s.e_cda, s.e_cdb, s.e_dab, s.e_dac, s.e_dba, s.e_dbc, s.e_dca, s.e_dcb]
  generalize gN pts a b c = D at *
  generalize gN pts a b d = C at *
  generalize gN pts a c d = B at *
  generalize gN pts b c d = A at *
  clear s
  revert o
  revert D C B A
  decide
theorem ar_u2 {pts : List Pt} {a b c d : Int} (s : Sg pts a b c d) : (arT pts b c d a && arT pts a b d c) = false := by
  have o := s.ok
  simp only [arT_g, gN_aba, gN_abb, gN_aab, s.e_acb, s.e_adb, s.e_adc, s.e_bac, s.e_bad, s.e_bca, s.e_bda, s.e_bdc, s.e_cab, s.e_cad, s.e_cba, s.e_cbd, s.e_cda, s.e_cdb, s.e_dab, s.e_dac, s.e_dba, s.e_dbc, s.e_dca, s.e_dcb]
  generalize gN pts a b c = D at *
  generalize gN pts a b d = C at *
  generalize gN pts a c d = B at *
  generalize gN pts b c d = A at *
  clear s
  revert o
  revert D C B A
  decide
theorem ar_u3 {pts : List Pt} {a b c d : Int} (s : Sg pts a b c d) : (arT pts b c d a && arT pts a b c d) = false := by
  have o := s.ok
  simp only [arT_g, gN_aba, gN_abb, gN_aab, s.e_acb, s.e_adb, s.e_adc, s.e_bac, s.e_bad, s.e_bca, s.e_bda, s.e_bdc, s.e_cab, s.e_cad, s.e_cba, s.e_cbd, s.e_cda, s.e_cdb, s.e_dab, s.e_dac, s.e_dba, s.e_dbc, s.e_dca, s.e_dcb]
  generalize gN pts a b c = D at *
  generalize gN pts a b d = C at *
  generalize gN pts a c d = B at *
  generalize gN pts b c d = A at *
  clear s
  revert o
  revert D C B A
  decide
theorem ar_u4 {pts : List Pt} {a b c d : Int} (s : Sg pts a b c d) : (arT pts a c d b && arT pts a b d c) = false := by
  have o := s.ok
  simp only [arT_g, gN_aba, gN_abb, gN_aab, s.e_acb, s.e_adb, s.e_adc, s.e_bac, s.e_bad, s.e_bca, s.e_bda, s.e_bdc, s.e_cab, s.e_cad, s.e_cba, s.e_cbd, s.e_cda, s.e_cdb, s.e_dab, s.e_dac, s.e_dba, s.e_dbc, s.e_dca, s.e_dcb]
  generalize gN pts a b c = D at *
  generalize gN pts a b d = C at *
  generalize gN pts a c d = B at *
  generalize gN pts b c d = A at *
  clear s
  revert o
  revert D C B A
  decide
theorem ar_u5 {pts : List Pt} {a b c d : Int} (s : Sg pts a b c d) : (arT pts a c d b && arT pts a b c d) = false := by
  have o := s.ok
  simp only [arT_g, gN_aba, gN_abb, gN_aab, s.e_acb, s.e_adb, s.e_adc, s.e_bac, s.e_bad, s.e_bca, s.e_bda, s.e_bdc, s.e_cab, s.e_cad, s.e_cba, s.e_cbd, s.e_cda, s.e_cdb, s.e_dab, s.e_dac, s.e_dba, s.e_dbc, s.e_dca, s.e_dcb]
  generalize gN pts a b c = D at *
  generalize gN pts a b d = C at *
  generalize gN pts a c d = B at *
  generalize gN pts b c d = A at *
  clear s
  revert o
  revert D C B A
  decide
theorem ar_u6 {pts : List Pt} {a b c d : Int} (s : Sg pts a b c d) : (arT pts a b d c && arT pts a b c d) = false := by
  have o := s.ok
  simp only [arT_g, gN_aba, gN_abb, gN_aab, s.e_acb, s.e_adb, s.e_adc, s.e_bac, s.e_bad, s.e_bca, s.e_bda, s.e_bdc, s.e_cab, s.e_cad, s.e_cba, s.e_cbd, s.e_cda, s.e_cdb, s.e_dab, s.e_dac, s.e_dba, s.e_dbc, s.e_dca, s.e_dcb]
  generalize gN pts a b c = D at *
  generalize gN pts a b d = C at *
  generalize gN pts a c d = B at *
  generalize gN pts b c d = A at *
  clear s
  revert o
  revert D C B A
  decide
def diagK (pts : List Pt) (a b c d : Int) : Bool := (gN pts a b c != gN pts a b d) && (gN pts c d a != gN pts c d b)
def b2 (b : Bool) : Nat := if b = true then 1 else 0
def noI (pts : List Pt) (a b c d : Int) : Bool := !arT pts b c d a && !arT pts a c d b && !arT pts a b d c && !arT pts a b c d
theorem dg_1 {pts : List Pt} {a b c d : Int} (s : Sg pts a b c d) : noI pts a b c d = true → decide (b2 (gN pts a b a) + b2 (gN pts a b b) + b2 (gN pts a b c) + b2 (gN pts a b d) = 1) = diagK pts a b c d := by
  have o := s.ok
  simp only [noI, diagK, arT_g, gN_aba, gN_abb, gN_aab, s.e_acb, s.e_adb, s.e_adc, s.e_bac, s.e_bad, s.e_bca, s.e_bda, s.e_bdc, s.e_cab, s.e_cad, s.e_cba, s.e_cbd, s.e_cda, s.e_cdb, s.e_dab, s.e_dac, s.e_dba, s.e_dbc, s.e_dca, s.e_dcb]
  generalize gN pts a b c = D at *
  generalize gN pts a b d = C at *
  generalize gN pts a c d = B at *
  generalize gN pts b c d = A at *
  clear s
  revert o
  revert D C B A
  decide
theorem dg_2 {pts : List Pt} {a b c d : Int} (s : Sg pts a b c d) : noI pts a b c d = true → decide (b2 (gN pts a c a) + b2 (gN pts a c b) + b2 (gN pts a c c) + b2 (gN pts a c d) = 1) = diagK pts a c b d := by
  have o := s.ok
  simp only [noI, diagK, arT_g, gN_aba, gN_abb, gN_aab, s.e_acb, s.e_adb, s.e_adc, s.e_bac, s.e_bad, s.e_bca, s.e_bda, s.e_bdc, s.e_cab, s.e_cad, s.e_cba, s.e_cbd, s.e_cda, s.e_cdb, s.e_dab, s.e_dac, s.e_dba, s.e_dbc, s.e_dca, s.e_dcb]
  generalize gN pts a b c = D at *
  generalize gN pts a b d = C at *
  generalize gN pts a c d = B at *
  generalize gN pts b c d = A at *
  clear s
  revert o
  revert D C B A
  decide
theorem dg_3 {pts : List Pt} {a b c d : Int} (s : Sg pts a b c d) : noI pts a b c d = true → decide (b2 (gN pts a d a) + b2 (gN pts a d b) + b2 (gN pts a d c) + b2 (gN pts a d d) = 1) = diagK pts a d b c := by
  have o := s.ok
  simp only [noI, diagK, arT_g, gN_aba, gN_abb, gN_aab, s.e_acb, s.e_adb, s.e_adc, s.e_bac, s.e_bad, s.e_bca, s.e_bda, s.e_bdc, s.e_cab, s.e_cad, s.e_cba, s.e_cbd, s.e_cda, s.e_cdb, s.e_dab, s.e_dac, s.e_dba, s.e_dbc, s.e_dca, s.e_dcb]
  generalize gN pts a b c = D at *
  generalize gN pts a b d = C at *
  generalize gN pts a c d = B at *
  generalize gN pts b c d = A at *
  clear s
  revert o
  revert D C B A
  decide
theorem dg_one {pts : List Pt} {a b c d : Int} (s : Sg pts a b c d) : noI pts a b c d = true → (diagK pts a b c d || diagK pts a c b d || diagK pts a d b c) = true := by
  have o := s.ok
  simp only [noI, diagK, arT_g, gN_aba, gN_abb, gN_aab, s.e_acb, s.e_adb, s.e_adc, s.e_bac, s.e_bad, s.e_bca, s.e_bda, s.e_bdc, s.e_cab, s.e_cad, s.e_cba, s.e_cbd, s.e_cda, s.e_cdb, s.e_dab, s.e_dac, s.e_dba, s.e_dbc, s.e_dca, s.e_dcb]
  generalize gN pts a b c = D at *
  generalize gN pts a b d = C at *
  generalize gN pts a c d = B at *
  generalize gN pts b c d = A at *
  clear s
  revert o
  revert D C B A
  decide
theorem ct_sep {pts : List Pt} {a b c d : Int} (s : Sg pts a b c d) : (b2 (gN pts a b c && !gN pts a b d) + b2 (gN pts a b d && !gN pts a b c) + b2 (gN pts a c b && !gN pts a c d) + b2 (gN pts a c d && !gN pts a c b) + b2 (gN pts a d b && !gN pts a d c) + b2 (gN pts a d c && !gN pts a d b) + b2 (gN pts b a c && !gN pts b a d) + b2 (gN pts b a d && !gN pts b a c) + b2 (gN pts b c a && !gN pts b c d) + b2 (gN pts b c d && !gN pts b c a) + b2 (gN pts b d a && !gN pts b d c) + b2 (gN pts b d c && !gN pts b d a) + b2 (gN pts c a b && !gN pts c a d) + b2 (gN pts c a d && !gN pts c a b) + b2 (gN pts c b a && !gN pts c b d) + b2 (gN pts c b d && !gN pts c b a) + b2 (gN pts c d a && !gN pts c d b) + b2 (gN pts c d b && !gN pts c d a) + b2 (gN pts d a b && !gN pts d a c) + b2 (gN pts d a c && !gN pts d a b) + b2 (gN pts d b a && !gN pts d b c) + b2 (gN pts d b c && !gN pts d b a) + b2 (gN pts d c a && !gN pts d c b) + b2 (gN pts d c b && !gN pts d c a)) = 4 + 2 * (b2 (arT pts b c d a) + b2 (arT pts a c d b) + b2 (arT pts a b d c) + b2 (arT pts a b c d)) := by
  have o := s.ok
  simp only [arT_g, gN_aba, gN_abb, gN_aab, s.e_acb, s.e_adb, s.e_adc, s.e_bac, s.e_bad, s.e_bca, s.e_bda, s.e_bdc, s.e_cab, s.e_cad, s.e_cba, s.e_cbd, s.e_cda, s.e_cdb, s.e_dab, s.e_dac, s.e_dba, s.e_dbc, s.e_dca, s.e_dcb]
  generalize gN pts a b c = D at *
  generalize gN pts a b d = C at *
  generalize gN pts a c d = B at *
  generalize gN pts b c d = A at *
  clear s
  revert o
  revert D C B A
  decide
theorem ct_rt {pts : List Pt} {a b c d : Int} (s : Sg pts a b c d) : (b2 (!gN pts a b c && !gN pts a b d) + b2 (!gN pts a b d && !gN pts a b c) + b2 (!gN pts a c b && !gN pts a c d) + b2 (!gN pts a c d && !gN pts a c b) + b2 (!gN pts a d b && !gN pts a d c) + b2 (!gN pts a d c && !gN pts a d b) + b2 (!gN pts b a c && !gN pts b a d) + b2 (!gN pts b a d && !gN pts b a c) + b2 (!gN pts b c a && !gN pts b c d) + b2 (!gN pts b c d && !gN pts b c a) + b2 (!gN pts b d a && !gN pts b d c) + b2 (!gN pts b d c && !gN pts b d a) + b2 (!gN pts c a b && !gN pts c a d) + b2 (!gN pts c a d && !gN pts c a b) + b2 (!gN pts c b a && !gN pts c b d) + b2 (!gN pts c b d && !gN pts c b a) + b2 (!gN pts c d a && !gN pts c d b) + b2 (!gN pts c d b && !gN pts c d a) + b2 (!gN pts d a b && !gN pts d a c) + b2 (!gN pts d a c && !gN pts d a b) + b2 (!gN pts d b a && !gN pts d b c) + b2 (!gN pts d b c && !gN pts d b a) + b2 (!gN pts d c a && !gN pts d c b) + b2 (!gN pts d c b && !gN pts d c a)) + 2 * (b2 (arT pts b c d a) + b2 (arT pts a c d b) + b2 (arT pts a b d c) + b2 (arT pts a b c d)) = 8 := by
  have o := s.ok
  simp only [arT_g, gN_aba, gN_abb, gN_aab, s.e_acb, s.e_adb, s.e_adc, s.e_bac, s.e_bad, s.e_bca, s.e_bda, s.e_bdc, s.e_cab, s.e_cad, s.e_cba, s.e_cbd, s.e_cda, s.e_cdb, s.e_dab, s.e_dac, s.e_dba, s.e_dbc, s.e_dca, s.e_dcb]
  generalize gN pts a b c = D at *
  generalize gN pts a b d = C at *
  generalize gN pts a c d = B at *
  generalize gN pts b c d = A at *
  clear s
  revert o
  revert D C B A
  decide
end K11

namespace K11
open PySem PySem.Spec PyProof.Rows L2 Evl EB PySem.W
/-! ### rest_of, inner_of -/
def rmI (l : List Int) (k : Int) : List Int := l.filter fun m => decide (m ≠ k)
def inP (pts : List Pt) (l : List Int) (k : Int) : Bool := inT pts (rmI l k) k
def inn (pts : List Pt) (l : List Int) : Option Int := l.find? (inP pts l)
def optI : Option Int → PyData
  | none => .none
  | some k => .int k
def args_rest_of {K : PySem.W.Frag} {mg : Str → Option Value} (T : Tx K mg) : List Int × Int → List PV := fun a => [dv K (tupI a.1), dv K (.int a.2)]
def dom_rest_of : List Int × Int → Prop := fun a => a.1.length ≤ 100
def out_rest_of {K : PySem.W.Frag} {mg : Str → Option Value} (T : Tx K mg) : List Int × Int → Out := fun a => .ok (dv K (tupI (rmI a.1 a.2)))
theorem je_neI2 {K : PySem.W.Frag} {M : EC → Addr} {W : WX} {ps : Kn} {ta tb : TE} {i j : Int} (ha : JD K M W ta ps (.int i)) (hb : JD K M W tb ps (.int j)) : JD K M W (tOp rNe ta tb) ps (.bool (decide (i ≠ j))) := je_is (je_neI ha hb) (by
  by_cases h : i = j
  · subst h
    simp
  · simp [h])
theorem ok_rest_of {P : Program} {w : World} {K : PySem.W.Frag} {mg : Str → Option Value} {base : Heap} (T : Tx K mg) : FnOk P w K mg base (L2.CX P w) 1 T.a_rest_of T.fd_rest_of ["numbers", "number"] (Prm K T.M (args_rest_of T) dom_rest_of (out_rest_of T)) := by
  refine T.F_rest_of.okX sc_rest_of (fun vs H Q E h => by obtain ⟨a, F, _, al, _⟩ := h; exact al.length) (fun cdv A outer s H vs Q E hr h => ?_)
  have tk : Takes (cxOf (L2.CX P w) P w K mg base N_rest_of "rest_of" (defScope s_rest_of) T.a_rest_of cdv A outer s H E) (fun cls d _ H => E cls d H) := takes_of rfl rfl rfl rfl
  obtain ⟨a, F, fh, al, hd, th⟩ := h
  refine ⟨_, (pss_one (ps_ret (pe_callTy call_tuple_of (by rfl) T.z_tuple PyProof.Rows.boot_tuple (pa_cons (pe_lc (own := [("member", 2)]) (g := (gName 2)) (tt := (tTest (tOp rNe (tVar 2) (tVar 1)))) (te := (tVar 2)) rfl sc_rest_of.nd (pi_tup (pv 0)) (blkOk_by (N := N_rest_of) (sc := defScope s_rest_of) (own := [("member", 2)]) (by decide +kernel)) (fun _ _ _ _ _ => (pg_name (i := 2) sc_rest_of.nd rfl (by first | exact Or.inl rfl | exact Or.inr rfl))) (fun _ _ _ _ _ => by exact pts_one (pt_cmpR op_ne (pv 2) (pv 1) (nomark _))) (fun _ _ _ _ _ => by exact (pv 2))) pa_nil)))), ?_⟩
  obtain ⟨l, k⟩ := a
  have hl : l.length ≤ 100 := hd
  exact fin_ok (r := .rt (dv K (tupI (rmI l k)))) (js_ret (je_tupL (je_lc (W' := fun _ _ _ _ => False) l .int (fun m => decide (m ≠ k)) .int (ji_tup (je_var (i := 0) rfl)) (by omega) fun m hm => ⟨_, jg_name, jt_test (je_neI2 (je_var (i := 2) rfl) (je_var (i := 1) rfl)), fun _ => je_var (i := 2) rfl⟩))) (by exact rfl) fh al th
/-- a loop that returns the first x with p x, None behind it -/
theorem js_findR {K : PySem.W.Frag} {M : EC → Addr} {W : WX} {ps : Kn} {vs : List Nat} {wi : TI} {g : TG} {tb tu : TS} (L : List Int) (p : Int → Bool) (hi : JI K M W wi ps (L.map .int))
    (hs : ∀ x ∈ L, ∃ qs, JG vs g ps (dv K (.int x)) qs ∧ JS K M W tb qs (cond (p x) (.rt (dv K (.int x))) (.nx ps))) (h2 : JS K M W tu ps (.rt (dv K .none))) : JS K M W (tSeq (tFor wi g tb) tu) ps (.rt (dv K (optI (L.find? p)))) := by
  have key := js_first (M := M) (W := W) (ps := ps) (vs := vs) (wi := wi) (g := g) (tb := tb) L .int (fun x => if p x = true then some x else none) (fun x => .ok (dv K (.int x))) hi fun x hx => by
    obtain ⟨qs, h1, h3⟩ := hs x hx
    refine ⟨qs, h1, ?_⟩
    cases hp : p x with
    | true => rw [hp] at h3; exact h3
    | false => rw [hp] at h3; exact h3
  have e : L.findSome? (fun x => if p x = true then some x else none) = L.find? p := by
    clear key hs hi
    induction L with
    | nil => rfl
    | cons x r ih =>
      rw [List.findSome?_cons, List.find?_cons]
      cases p x with
      | true => rfl
      | false => exact ih
  rw [e] at key
  cases ha : L.find? p with
  | some x => rw [ha] at key; exact js_rt key
  | none => rw [ha] at key; exact js_seq key h2
/-- if t: return d -/
theorem js_ifC {K : PySem.W.Frag} {M : EC → Addr} {W : WX} {ps qs : Kn} {t : TT} {te : TE} {b : Bool} {d : PyData} (h : JT K M W t ps b) (h1 : JD K M W te ps d) (w : Weak ps qs) : JS K M W (tIfS t (tRet te) tNext) ps (cond b (.rt (dv K d)) (.nx qs)) := by
  cases b with
  | true => exact js_if h (fun _ => js_ret h1) (fun z => Bool.noConfusion z)
  | false => exact js_if h (fun z => Bool.noConfusion z) (fun _ => js_weak js_next w)
def args_inner_of {K : PySem.W.Frag} {mg : Str → Option Value} (T : Tx K mg) : List Pt × Int × Int × Int × Int → List PV := fun a => [ob1 K T.a_Floor "points" (.tuple (a.1.map pD)), dv K (.int a.2.1), dv K (.int a.2.2.1), dv K (.int a.2.2.2.1), dv K (.int a.2.2.2.2)]
def dom_inner_of : List Pt × Int × Int × Int × Int → Prop := fun a => (∀ p ∈ a.1, near p) ∧ a.1.length ≤ 10
def l4 (a : List Pt × Int × Int × Int × Int) : List Int := [a.2.1, a.2.2.1, a.2.2.2.1, a.2.2.2.2]
def out_inner_of {K : PySem.W.Frag} {mg : Str → Option Value} (T : Tx K mg) : List Pt × Int × Int × Int × Int → Out := fun a => outV K (badNos a.1.length (l4 a)) (optI (inn a.1 (l4 a)))
theorem nos4 {n : Int} {a b c d : Int} (h : badNos n [a, b, c, d] = none) : (isNo a n = true ∧ isNo b n = true ∧ isNo c n = true ∧ isNo d n = true) ∧ [a, b, c, d].Nodup := by
  refine ⟨⟨badNos_no h a (by simp), badNos_no h b (by simp), badNos_no h c (by simp), badNos_no h d (by simp)⟩, ?_⟩
  have key : ∀ k i, k < 4 → [a, b, c, d][k]? = some i → ([a, b, c, d].take k).contains i = false := fun k i hk hi => by
    have h0 := badNos_no h i (List.mem_of_getElem? hi)
    have := List.findSome?_eq_none_iff.mp h k (List.mem_range.mpr hk)
    unfold badNo at this
    rw [hi] at this
    dsimp only at this
    rw [h0] at this
    dsimp only at this
    cases h1 : ([a, b, c, d].take k).contains i with
    | false => rfl
    | true => rw [h1] at this; cases this
  have k1 := key 1 b (by decide) rfl
  have k2 := key 2 c (by decide) rfl
  have k3 := key 3 d (by decide) rfl
  simp at k1 k2 k3
  simp
  omega
theorem rm_three {l : List Int} {k : Int} (h4 : l.length = 4) (nd : l.Nodup) (hk : k ∈ l) : (rmI l k).length = 3 := by
  match l, h4 with
  | [a, b, c, d], _ =>
    simp only [List.nodup_cons, List.mem_cons, List.not_mem_nil, or_false, not_or, List.nodup_nil, and_true, not_false_eq_true] at nd hk
    obtain ⟨⟨h1, h2, h3⟩, ⟨h5, h6⟩, h7⟩ := nd
    unfold rmI
    rcases hk with rfl | rfl | rfl | rfl
    · simp [h1, h2, h3, Ne.symm h1, Ne.symm h2, Ne.symm h3]
    · simp [h1, h5, h6, Ne.symm h1, Ne.symm h5, Ne.symm h6]
    · simp [h2, h5, h7, Ne.symm h2, Ne.symm h5, Ne.symm h7]
    · simp [h3, h6, h7, Ne.symm h3, Ne.symm h6, Ne.symm h7]
theorem rm_mem {l : List Int} {k x : Int} : x ∈ rmI l k ↔ x ∈ l ∧ x ≠ k := by
  unfold rmI
  simp
/-- is_around of a triple as a list -/
theorem je_around {K : PySem.W.Frag} {mg : Str → Option Value} (T : Tx K mg) {W : WX} {ps : Kn} {t1 t2 t3 : TE} {pts : List Pt} {l : List Int} {k : Int} (h1 : JV K T.M W t1 ps (ob1 K T.a_Floor "points" (.tuple (pts.map pD)))) (h2 : JD K T.M W t2 ps (tupI l)) (h3 : JD K T.M W t3 ps (.int k)) (hn : ∀ p ∈ pts, near p) (hl : l.length = 3) (hm : ∀ x ∈ l, isNo x pts.length = true) (hk : isNo k pts.length = true) (nk : k ∉ l) :
    JD K T.M W (tCallS (Prm K T.M (args_is_around T) dom_is_around (out_is_around T)) (WE W) (tCons t1 (tCons t2 (tCons t3 tNil)))) ps (.bool (inT pts l k)) := by
  match l, hl with
  | [u, v, w0], _ =>
    have e : inT pts [u, v, w0] k = arT pts u v w0 k := by
      have : [u, v, w0].contains k = false := by simpa using nk
      unfold inT
      rw [this]
      rfl
    rw [e]
    exact je_call (args := args_is_around T) (dom := dom_is_around) (out := out_is_around T) (pts, u, v, w0, k) (ja_cons h1 (ja_cons h2 (ja_cons h3 ja_nil))) ⟨hn, hm u (by simp), hm v (by simp), hm w0 (by simp), hk⟩
theorem ok_inner_of {P : Program} {w : World} {K : PySem.W.Frag} {mg : Str → Option Value} {base : Heap} (T : Tx K mg) : FnOk P w K mg base (L2.CX P w) 5 T.a_inner_of T.fd_inner_of ["floor", "a", "b", "c", "d"] (Prm K T.M (args_inner_of T) dom_inner_of (out_inner_of T)) := by
  refine T.F_inner_of.okX sc_inner_of (fun vs H Q E h => by obtain ⟨a, F, _, al, _⟩ := h; exact al.length) (fun cdv A outer s H vs Q E hr h => ?_)
  have tk : Takes (cxOf (L2.CX P w) P w K mg base N_inner_of "inner_of" (defScope s_inner_of) T.a_inner_of cdv A outer s H E) (fun cls d _ H => E cls d H) := takes_of rfl rfl rfl rfl
  obtain ⟨a, F, fh, al, hd, th⟩ := h
  refine ⟨_, (pss_cons (ps_set (i := 5) sc_inner_of.nd rfl (by first | exact Or.inl rfl | exact Or.inr rfl) (pe_tup (pa_cons (pv 1) (pa_cons (pv 2) (pa_cons (pv 3) (pa_cons (pv 4) pa_nil))))))
      (pss_cons (ps_expr (pe_callS (ok_check_numbers T) (hr.mono (by decide)) (by rfl) T.g_check_numbers T.F_check_numbers.kp (b_check_numbers T) (fun σ => passAt tk σ) (pa_cons (pv 5) (pa_cons (pe_callB (call_lenOwn (ok_Floor___len__ T) (hr.mono (by decide)) T.m_Floor___len__.1 T.m_Floor___len__.2 (b_Floor___len__ T) passF) (by rfl) T.z_len PySem.boot_len (pa_cons (pv 0) pa_nil)) pa_nil))))
      (pss_cons (ps_for (passes_of rfl) rfl (pi_tup (pv 5)) (pg_name (i := 6) sc_inner_of.nd rfl (by first | exact Or.inl rfl | exact Or.inr rfl)) (pss_one (ps_if (pt_val (pe_callS (ok_is_around T) (hr.mono (by decide)) (by rfl) T.g_is_around T.F_is_around.kp (b_is_around T) (fun σ => passAt tk σ) (pa_cons (pv 0) (pa_cons (pe_callS (ok_rest_of T) (hr.mono (by decide)) (by rfl) T.g_rest_of T.F_rest_of.kp (b_rest_of T) (fun σ => passAt tk σ) (pa_cons (pv 5) (pa_cons (pv 6) pa_nil))) (pa_cons (pv 6) pa_nil))))) (pss_one (ps_ret (pv 6))) pss_nil)))
      (pss_one (ps_ret pe_non))))), ?_⟩
  obtain ⟨pts, x, y, z, u⟩ := a
  obtain ⟨hn, hl⟩ := hd
  simp only at hl hn
  let W0 : WX := fun cls d _ H => E cls d H
  let ns : List Int := [x, y, z, u]
  let ps0 : Kn := [some (ob1 K T.a_Floor "points" (.tuple (pts.map pD))), some (dv K (.int x)), some (dv K (.int y)), some (dv K (.int z)), some (dv K (.int u)), some (dv K (tupI ns)), none]
  have s1 : JS K T.M W0 _ (entry N_inner_of (args_inner_of T (pts, x, y, z, u))) (.nx ps0) := js_set (i := 5) (P := dv K (tupI ns)) (je_tup (ds := [.int x, .int y, .int z, .int u]) (ja_cons (je_var (i := 1) rfl) (ja_cons (je_var (i := 2) rfl) (ja_cons (je_var (i := 3) rfl) (ja_cons (je_var (i := 4) rfl) ja_nil)))))
  have c1 := je_call (K := K) (M := T.M) (W := W0) (ps := ps0) (args := args_check_numbers T) (dom := dom_check_numbers) (out := out_check_numbers T) (false, ns, pts.length) (ja_cons (je_var (i := 5) rfl) (ja_cons (je_lenF T (je_var (i := 0) rfl) (by omega)) ja_nil)) (show 4 ≤ 1000 by decide)
  have ho : out_check_numbers T (false, ns, pts.length) = outE K (badNos pts.length ns) := rfl
  rw [ho] at c1
  have ho2 : out_inner_of T (pts, x, y, z, u) = outV K (badNos pts.length ns) (optI (inn pts ns)) := rfl
  rw [ho2] at th
  cases hb : badNos pts.length ns with
  | some e =>
    rw [hb] at c1 th
    exact fin_ok (r := .er e) (js_seq s1 (js_er (js_drop c1))) (by exact rfl) fh al th
  | none =>
    rw [hb] at c1 th
    obtain ⟨⟨n1, n2, n3, n4⟩, nd⟩ := nos4 hb
    have hm : ∀ k ∈ ns, isNo k pts.length = true := fun k hk => badNos_no hb k hk
    refine fin_ok (r := .rt (dv K (optI (inn pts ns)))) (js_seq s1 (js_seq (js_drop c1) (js_findR (vs := [6]) ns (inP pts ns) (ji_tup (je_var (i := 5) rfl)) (fun k hk => ⟨_, jg_name, js_ifC (jt_B (je_around T (je_var (i := 0) rfl) (je_call (args := args_rest_of T) (dom := dom_rest_of) (out := out_rest_of T) (ns, k) (ja_cons (je_var (i := 5) rfl) (ja_cons (je_var (i := 6) rfl) ja_nil)) (show 4 ≤ 100 by decide)) (je_var (i := 6) rfl) hn (rm_three rfl nd hk) (fun q hq => hm q (rm_mem.mp hq).1) (hm k hk) (fun z => (rm_mem.mp z).2 rfl))) (je_var (i := 6) rfl) ⟨.inr rfl, .inr rfl, .inr rfl, .inr rfl, .inr rfl, .inr rfl, .inl rfl, trivial⟩⟩) (js_ret je_non)))) (by exact rfl) fh al th
end K11

namespace K11
open PySem PySem.Spec PyProof.Rows L2 Evl EB PySem.W
/-! ### left_among, diagonal, split -/
def lamN (pts : List Pt) (u v : Int) (F : List Int) : List Nat := (leftN pts u v).filter fun c => F.contains (c : Int)
def args_left_among {K : PySem.W.Frag} {mg : Str → Option Value} (T : Tx K mg) : List Pt × Int × Int × List Int → List PV := fun a => [ob1 K T.a_Floor "points" (.tuple (a.1.map pD)), dv K (.int a.2.1), dv K (.int a.2.2.1), dv K (tupI a.2.2.2)]
def dom_left_among : List Pt × Int × Int × List Int → Prop := fun a => (∀ p ∈ a.1, near p) ∧ a.1.length ≤ 10 ∧ badNos a.1.length [a.2.1, a.2.2.1] = none
def out_left_among {K : PySem.W.Frag} {mg : Str → Option Value} (T : Tx K mg) : List Pt × Int × Int × List Int → Out := fun a => .ok (dv K (.list ((lamN a.1 a.2.1 a.2.2.1 a.2.2.2).map fun c : Nat => .int (c : Int))))
theorem leftN_len (pts : List Pt) (u v : Int) : (leftN pts u v).length ≤ pts.length := by
  have := List.length_filter_le (fun c : Nat => decide (0 < area (pt pts u) (pt pts v) (pt pts c))) (List.range pts.length)
  rw [List.length_range] at this
  exact this
theorem ok_left_among {P : Program} {w : World} {K : PySem.W.Frag} {mg : Str → Option Value} {base : Heap} (T : Tx K mg) : FnOk P w K mg base (L2.CX P w) 6 T.a_left_among T.fd_left_among ["floor", "a", "b", "four"] (Prm K T.M (args_left_among T) dom_left_among (out_left_among T)) := by
  refine T.F_left_among.okX sc_left_among (fun vs H Q E h => by obtain ⟨a, F, _, al, _⟩ := h; exact al.length) (fun cdv A outer s H vs Q E hr h => ?_)
  have tk : Takes (cxOf (L2.CX P w) P w K mg base N_left_among "left_among" (defScope s_left_among) T.a_left_among cdv A outer s H E) (fun cls d _ H => E cls d H) := takes_of rfl rfl rfl rfl
  obtain ⟨a, F, fh, al, hd, th⟩ := h
  refine ⟨_, (pss_one (ps_ret (pe_lc (own := [("number", 4)]) (g := (gName 4)) (tt := (tTest (tOp (rIn K false) (tVar 4) (tVar 3)))) (te := (tVar 4)) rfl sc_left_among.nd (pi_list (pe_methW (pv 0) T.C_Floor T.m_Floor_left_of (ok_Floor_left_of T) (hr.mono (by decide)) (b_Floor_left_of T) (fun σ => passAt tk σ) (pa_cons (pv 1) (pa_cons (pv 2) pa_nil)))) (blkOk_by (N := N_left_among) (sc := defScope s_left_among) (own := [("number", 4)]) (by decide +kernel)) (fun _ _ _ _ _ => (pg_name (i := 4) sc_left_among.nd rfl (by first | exact Or.inl rfl | exact Or.inr rfl))) (fun _ _ _ _ _ => by exact pts_one (pt_cmpR op_in_seq (pv 4) (pv 3) (by rfl))) (fun _ _ _ _ _ => by exact (pv 4))))), ?_⟩
  obtain ⟨pts, u, v, F0⟩ := a
  obtain ⟨hn, hl, hb⟩ := hd
  simp only at hl hn hb
  have := leftN_len pts u v
  exact fin_ok (r := .rt (dv K (.list ((lamN pts u v F0).map fun c : Nat => .int (c : Int))))) (js_ret (je_lc (W' := fun _ _ _ _ => False) (leftN pts u v) (fun c : Nat => .int (c : Int)) (fun c => F0.contains (c : Int)) (fun c : Nat => .int (c : Int)) (ji_list (je_left T (je_var (i := 0) rfl) (je_var (i := 1) rfl) (je_var (i := 2) rfl) hl hn hb)) (by omega) fun c hc => ⟨_, jg_name, jt_test (je_inT (je_var (i := 4) rfl) (je_var (i := 3) rfl)), fun _ => je_var (i := 4) rfl⟩)) (by exact rfl) fh al th
theorem rg_mem2 {n : Nat} {x : Int} : x ∈ rg 0 n ↔ 0 ≤ x ∧ x < n := ⟨fun h => by have := rg_mem h; omega, fun h => mem_rg h.1 (by omega)⟩
theorem lam_perm {pts : List Pt} {u v : Int} {F : List Int} (nd : F.Nodup) (hF : ∀ x ∈ F, inR2 pts x) : ((lamN pts u v F).map fun c : Nat => (c : Int)).Perm (F.filter fun x => gN pts u v x) := by
  refine (List.perm_ext_iff_of_nodup ?_ (nd.filter _)).mpr fun x => ?_
  · refine List.nodup_iff_pairwise_ne.mpr (List.pairwise_map.mpr ?_)
    refine List.Pairwise.imp ?_ ((List.nodup_iff_pairwise_ne.mp List.nodup_range).filter _ |>.filter _)
    intro i j h z
    exact h (by omega)
  · rw [List.mem_map, List.mem_filter]
    constructor
    · rintro ⟨c, hc, rfl⟩
      obtain ⟨h1, h2⟩ := List.mem_filter.mp hc
      obtain ⟨h3, h4⟩ := List.mem_filter.mp h1
      exact ⟨by simpa using h2, h4⟩
    · rintro ⟨h1, h2⟩
      have hx := hF x h1
      obtain ⟨i, rfl⟩ := Int.eq_ofNat_of_zero_le hx.1
      have hx2 := hx.2
      exact ⟨i, List.mem_filter.mpr ⟨List.mem_filter.mpr ⟨List.mem_range.mpr (by omega), h2⟩, by simpa using h1⟩, rfl⟩
theorem lam_len {pts : List Pt} {u v a b c d : Int} (h : D4 pts a b c d) : (lamN pts u v [a, b, c, d]).length = b2 (gN pts u v a) + b2 (gN pts u v b) + b2 (gN pts u v c) + b2 (gN pts u v d) := by
  have nd : [a, b, c, d].Nodup := by
    simp [h.ab, h.ac, h.ad, h.bc, h.bd, h.cd]
  have := (lam_perm (u := u) (v := v) nd (pts := pts) (fun x hx => by
    simp only [List.mem_cons, List.not_mem_nil, or_false] at hx
    rcases hx with rfl | rfl | rfl | rfl
    · exact h.ra
    · exact h.rb
    · exact h.rc
    · exact h.rd)).length_eq
  rw [List.length_map] at this
  rw [this]
  unfold b2
  simp only [List.filter_cons, List.filter_nil]
  cases gN pts u v a <;> cases gN pts u v b <;> cases gN pts u v c <;> cases gN pts u v d <;> rfl
def diag (pts : List Pt) (a b c d : Int) : List Int := if diagK pts a b c d = true then [a, b] else if diagK pts a c b d = true then [a, c] else [a, d]
def args_diagonal {K : PySem.W.Frag} {mg : Str → Option Value} (T : Tx K mg) : List Pt × Int × Int × Int × Int → List PV := fun a => [ob1 K T.a_Floor "points" (.tuple (a.1.map pD)), dv K (tupI (l4 a))]
def dom_diagonal : List Pt × Int × Int × Int × Int → Prop := fun a => (∀ p ∈ a.1, near p) ∧ a.1.length ≤ 10 ∧ Gp a.1 ∧ D4 a.1 a.2.1 a.2.2.1 a.2.2.2.1 a.2.2.2.2 ∧ noI a.1 a.2.1 a.2.2.1 a.2.2.2.1 a.2.2.2.2 = true
def out_diagonal {K : PySem.W.Frag} {mg : Str → Option Value} (T : Tx K mg) : List Pt × Int × Int × Int × Int → Out := fun a => .ok (dv K (tupI (diag a.1 a.2.1 a.2.2.1 a.2.2.2.1 a.2.2.2.2)))
theorem D4.mem {pts : List Pt} {a b c d : Int} (h : D4 pts a b c d) : ∀ x ∈ [a, b, c, d], inR2 pts x := fun x hx => by
  simp only [List.mem_cons, List.not_mem_nil, or_false] at hx
  rcases hx with rfl | rfl | rfl | rfl
  · exact h.ra
  · exact h.rb
  · exact h.rc
  · exact h.rd
theorem cut_one (x : Int) (l : List Int) : EB.cutD ((x :: l).map PyData.int) (some ((1 : Nat) : Int)) none = l.map PyData.int := by
  unfold EB.cutD
  show List.take _ (List.drop _ _) = _
  have e1 : HT.sIx ((x :: l).map PyData.int).length 0 (some ((1 : Nat) : Int)) = 1 := by
    rw [List.length_map, List.length_cons]
    unfold HT.sIx
    simp
  have e2 : HT.sIx ((x :: l).map PyData.int).length ((x :: l).map PyData.int).length none = l.length + 1 := by
    rw [List.length_map, List.length_cons]
    rfl
  rw [e1, e2]
  simp only [List.map_cons, List.drop_succ_cons, List.drop_zero, Nat.add_sub_cancel]
  exact List.take_of_length_le (by rw [List.length_map]; exact Nat.le_refl _)
theorem ok_diagonal {P : Program} {w : World} {K : PySem.W.Frag} {mg : Str → Option Value} {base : Heap} (T : Tx K mg) : FnOk P w K mg base (L2.CX P w) 7 T.a_diagonal T.fd_diagonal ["floor", "four"] (Prm K T.M (args_diagonal T) dom_diagonal (out_diagonal T)) := by
  refine T.F_diagonal.okX sc_diagonal (fun vs H Q E h => by obtain ⟨a, F, _, al, _⟩ := h; exact al.length) (fun cdv A outer s H vs Q E hr h => ?_)
  have tk : Takes (cxOf (L2.CX P w) P w K mg base N_diagonal "diagonal" (defScope s_diagonal) T.a_diagonal cdv A outer s H E) (fun cls d _ H => E cls d H) := takes_of rfl rfl rfl rfl
  obtain ⟨a, F, fh, al, hd, th⟩ := h
  refine ⟨_, (pss_cons (ps_set (i := 2) sc_diagonal.nd rfl (by first | exact Or.inl rfl | exact Or.inr rfl) (pe_ix ix_tup (pv 1) pe_int (fun _ _ => rfl)))
      (pss_one (ps_ret (pe_ix ix_list (pe_lc (own := [("last", 3)]) (g := (gName 3)) (tt := (tTest (tOp rEq (tCB (rLenS K) (tCons (tCallS (Prm K T.M (args_left_among T) dom_left_among (out_left_among T)) (WE fun _ _ _ _ => False) (tCons (tVar 0) (tCons (tVar 2) (tCons (tVar 3) (tCons (tVar 1) tNil))))) tNil)) (tC (.int 1))))) (te := (tTup (tCons (tVar 2) (tCons (tVar 3) tNil)))) rfl sc_diagonal.nd (pi_tup (pe_slice sl_tup (pv 1) (po_some pe_int) po_none)) (blkOk_by (N := N_diagonal) (sc := defScope s_diagonal) (own := [("last", 3)]) (by decide +kernel)) (fun _ _ _ _ _ => (pg_name (i := 3) sc_diagonal.nd rfl (by first | exact Or.inl rfl | exact Or.inr rfl))) (fun _ _ _ _ _ => by exact pts_one (pt_cmpR op_eq (pe_callB call_len_seq (by rfl) T.z_len PySem.boot_len (pa_cons (pe_callS (ok_left_among T) (hr.mono (by decide)) (by rfl) T.g_left_among T.F_left_among.kp (b_left_among T) (fun σ => passAt takes0 σ) (pa_cons (pv 0) (pa_cons (pv 2) (pa_cons (pv 3) (pa_cons (pv 1) pa_nil))))) pa_nil)) pe_int (nomark _))) (fun _ _ _ _ _ => by exact (pe_tup (pa_cons (pv 2) (pa_cons (pv 3) pa_nil))))) pe_int (fun _ _ => rfl))))), ?_⟩
  obtain ⟨pts, x, y, z, u⟩ := a
  obtain ⟨hn, hl, g, h4, hno⟩ := hd
  simp only at hl hn g h4 hno
  let W0 : WX := fun cls d _ H => E cls d H
  have sg := h4.sg g
  let L : List Int := [x, y, z, u]
  let p : Int → Bool := fun k => decide ((((lamN pts x k L).map fun c : Nat => PyData.int (c : Int)).length : Int) = 1)
  have pe : ∀ k, p k = decide (b2 (gN pts x k x) + b2 (gN pts x k y) + b2 (gN pts x k z) + b2 (gN pts x k u) = 1) := fun k => by
    show decide (_ = _) = _
    rw [List.length_map, lam_len h4]
    congr 1
    exact propext ⟨fun q => by omega, fun q => by omega⟩
  have p1 : p y = diagK pts x y z u := (pe y).trans (dg_1 sg hno)
  have p2 : p z = diagK pts x z y u := (pe z).trans (dg_2 sg hno)
  have p3 : p u = diagK pts x u y z := (pe u).trans (dg_3 sg hno)
  have one := dg_one sg hno
  have e0 : ∃ r, (([y, z, u].filter p).map fun k => PyData.tuple [.int x, .int k]) = tupI (diag pts x y z u) :: r := by
    unfold diag
    cases q1 : diagK pts x y z u with
    | true => exact ⟨_, by rw [List.filter_cons_of_pos (by rw [p1, q1])]; rfl⟩
    | false =>
      rw [List.filter_cons_of_neg (by rw [p1, q1]; decide)]
      cases q2 : diagK pts x z y u with
      | true => exact ⟨_, by rw [List.filter_cons_of_pos (by rw [p2, q2])]; rfl⟩
      | false =>
        rw [List.filter_cons_of_neg (by rw [p2, q2]; decide)]
        cases q3 : diagK pts x u y z with
        | true => exact ⟨_, by rw [List.filter_cons_of_pos (by rw [p3, q3])]; rfl⟩
        | false =>
          rw [q1, q2, q3] at one
          cases one
  obtain ⟨r, er⟩ := e0
  have hv : ∀ ps : Kn, ps[1]? = some (some (dv K (tupI L))) → JD K T.M W0 (tVar 1) ps (.tuple (L.map .int)) := fun ps h => je_var (i := 1) h
  have hsl : JD K T.M W0 (tSl (rSlT K) (tVar 1) (tPart (tC (.int 1))) tNoPart) ((entry N_diagonal (args_diagonal T (pts, x, y, z, u))).set 2 (some (dv K (.int x)))) (.tuple ([y, z, u].map .int)) := je_is (je_slT (ds := L.map .int) (hv _ rfl) (jo_some (i := ((1 : Nat) : Int)) je_int) jo_none (by simp [L, HT.sIx])) (by rw [cut_one])
  refine fin_ok (r := .rt (dv K (tupI (diag pts x y z u)))) (js_seq (js_set (i := 2) (P := dv K (.int x)) (je_ixT (hv _ rfl) je_int rfl)) (js_ret (je_ixL (je_is (je_lc (W' := fun _ _ _ _ => False) [y, z, u] .int p (fun k => .tuple [.int x, .int k]) (ji_tup hsl) (show 3 ≤ 90000 by decide) fun k hk => ⟨_, jg_name, jt_test (je_eqI (je_lenL (je_call (args := args_left_among T) (dom := dom_left_among) (out := out_left_among T) (pts, x, k, L) (ja_cons (je_var (i := 0) rfl) (ja_cons (je_var (i := 2) rfl) (ja_cons (je_var (i := 3) rfl) (ja_cons (je_var (i := 1) rfl) ja_nil)))) ⟨hn, hl, ?_⟩)) je_int), fun _ => je_tup (ds := [.int x, .int k]) (ja_cons (je_var (i := 2) rfl) (ja_cons (je_var (i := 3) rfl) ja_nil))⟩) (congrArg PyData.list er)) (je_int (i := ((0 : Nat) : Int))) (atI_nat rfl)))) (by exact rfl) fh al th
  simp only [List.mem_cons, List.not_mem_nil, or_false] at hk
  rcases hk with rfl | rfl | rfl
  · exact badNos_two h4.ra h4.rb (Ne.symm h4.ab)
  · exact badNos_two h4.ra h4.rc (Ne.symm h4.ac)
  · exact badNos_two h4.ra h4.rd (Ne.symm h4.ad)
end K11

namespace K11
open PySem PySem.Spec PyProof.Rows L2 Evl EB PySem.W
/-! ### the inner one does not depend on the order -/
theorem D4.tri {pts : List Pt} {a b c k : Int} (ra : inR2 pts a) (rb : inR2 pts b) (rc : inR2 pts c) (rk : inR2 pts k) (nd : [a, b, c].Nodup) (nk : k ∉ [a, b, c]) : D4 pts a b c k := by
  simp at nd nk
  obtain ⟨⟨h1, h2⟩, h3⟩ := nd
  obtain ⟨h4, h5, h6⟩ := nk
  exact ⟨ra, rb, rc, rk, h1, h2, Ne.symm h4, h3, Ne.symm h5, Ne.symm h6⟩
theorem inT_ar {pts : List Pt} {a b c k : Int} (nk : k ∉ [a, b, c]) : inT pts [a, b, c] k = arT pts a b c k := by
  have : [a, b, c].contains k = false := by simpa using nk
  unfold inT
  rw [this]
  rfl
theorem inT_perm {pts : List Pt} (g : Gp pts) {t t' : List Int} {k : Int} (pm : t.Perm t') (h3 : t.length = 3) (nd : t.Nodup) (hr : ∀ x ∈ t, inR2 pts x) (rk : inR2 pts k) (nk : k ∉ t) : inT pts t' k = inT pts t k := by
  have h3' : t'.length = 3 := by rw [← pm.length_eq, h3]
  have nk' : k ∉ t' := fun z => nk (pm.mem_iff.mpr z)
  have nd' : t'.Nodup := pm.nodup_iff.mp nd
  match t, h3, t', h3' with
  | [a, b, c], _, [x, y, z], _ =>
    have s := (D4.tri (hr a (by simp)) (hr b (by simp)) (hr c (by simp)) rk nd nk).sg g
    rw [inT_ar nk, inT_ar nk']
    have hx : x ∈ [a, b, c] := pm.mem_iff.mpr (by simp)
    have hy : y ∈ [a, b, c] := pm.mem_iff.mpr (by simp)
    have hz : z ∈ [a, b, c] := pm.mem_iff.mpr (by simp)
    simp only [List.nodup_cons, List.mem_cons, List.not_mem_nil, or_false, not_or, List.nodup_nil, and_true, not_false_eq_true] at nd' hx hy hz
    obtain ⟨⟨n1, n2⟩, n3⟩ := nd'
    rcases hx with rfl | rfl | rfl <;> rcases hy with rfl | rfl | rfl <;> rcases hz with rfl | rfl | rfl <;> first | exact absurd rfl n1 | exact absurd rfl n2 | exact absurd rfl n3 | rfl | exact ar_acb s | exact ar_sw s | exact ar_ro s | exact ar_cab s | exact ar_cba s
theorem rm_perm {l l' : List Int} (pm : l.Perm l') (k : Int) : (rmI l k).Perm (rmI l' k) := pm.filter _
theorem rm_nd {l : List Int} (nd : l.Nodup) (k : Int) : (rmI l k).Nodup := nd.filter _
theorem inP_perm {pts : List Pt} (g : Gp pts) {l l' : List Int} (pm : l.Perm l') (h4 : l.length = 4) (nd : l.Nodup) (hr : ∀ x ∈ l, inR2 pts x) {k : Int} (hk : k ∈ l) : inP pts l' k = inP pts l k :=
  inT_perm g (rm_perm pm k) (rm_three h4 nd hk) (rm_nd nd k) (fun x hx => hr x (rm_mem.mp hx).1) (hr k hk) (fun z => (rm_mem.mp z).2 rfl)
theorem rm4 {pts : List Pt} {a b c d : Int} (h : D4 pts a b c d) : rmI [a, b, c, d] a = [b, c, d] ∧ rmI [a, b, c, d] b = [a, c, d] ∧ rmI [a, b, c, d] c = [a, b, d] ∧ rmI [a, b, c, d] d = [a, b, c] := by
  unfold rmI
  simp [h.ab, h.ac, h.ad, h.bc, h.bd, h.cd, Ne.symm h.ab, Ne.symm h.ac, Ne.symm h.ad, Ne.symm h.bc, Ne.symm h.bd, Ne.symm h.cd]
theorem inP4 {pts : List Pt} {a b c d : Int} (h : D4 pts a b c d) : inP pts [a, b, c, d] a = arT pts b c d a ∧ inP pts [a, b, c, d] b = arT pts a c d b ∧ inP pts [a, b, c, d] c = arT pts a b d c ∧ inP pts [a, b, c, d] d = arT pts a b c d := by
  obtain ⟨e1, e2, e3, e4⟩ := rm4 h
  unfold inP
  rw [e1, e2, e3, e4]
  refine ⟨inT_ar ?_, inT_ar ?_, inT_ar ?_, inT_ar ?_⟩
  · simp [h.ab, h.ac, h.ad]
  · simp [Ne.symm h.ab, h.bc, h.bd]
  · simp [Ne.symm h.ac, Ne.symm h.bc, h.cd]
  · simp [Ne.symm h.ad, Ne.symm h.bd, Ne.symm h.cd]
theorem inP_one {pts : List Pt} (g : Gp pts) {a b c d : Int} (h : D4 pts a b c d) : ∀ x ∈ [a, b, c, d], ∀ y ∈ [a, b, c, d], inP pts [a, b, c, d] x = true → inP pts [a, b, c, d] y = true → x = y := by
  have s := h.sg g
  obtain ⟨e1, e2, e3, e4⟩ := inP4 h
  have u1 := ar_u1 s
  have u2 := ar_u2 s
  have u3 := ar_u3 s
  have u4 := ar_u4 s
  have u5 := ar_u5 s
  have u6 := ar_u6 s
  rw [← e1] at u1 u2 u3
  rw [← e2] at u1 u4 u5
  rw [← e3] at u2 u4 u6
  rw [← e4] at u3 u5 u6
  intro x hx y hy px py
  simp only [List.mem_cons, List.not_mem_nil, or_false] at hx hy
  rcases hx with hx | hx | hx | hx <;> rcases hy with hy | hy | hy | hy <;> subst hx <;> subst hy <;> first | rfl | (exfalso; simp_all)
theorem find_perm {l l' : List Int} {p : Int → Bool} (pm : l.Perm l') (one : ∀ x ∈ l, ∀ y ∈ l, p x = true → p y = true → x = y) : l'.find? p = l.find? p := by
  cases h : l.find? p with
  | none =>
    rw [List.find?_eq_none] at h ⊢
    exact fun x hx => h x (pm.mem_iff.mpr hx)
  | some x =>
    have h1 := List.find?_some h
    have h2 := List.mem_of_find?_eq_some h
    cases h' : l'.find? p with
    | none =>
      rw [List.find?_eq_none] at h'
      exact absurd h1 (h' x (pm.mem_iff.mp h2))
    | some y =>
      have h3 := List.find?_some h'
      have h4 := List.mem_of_find?_eq_some h'
      rw [one x h2 y (pm.mem_iff.mpr h4) h1 h3]
theorem find_congr {l : List Int} {p q : Int → Bool} (h : ∀ x ∈ l, p x = q x) : l.find? p = l.find? q := by
  induction l with
  | nil => rfl
  | cons x r ih =>
    rw [List.find?_cons, List.find?_cons, h x List.mem_cons_self, ih fun y hy => h y (List.mem_cons_of_mem _ hy)]
theorem inn_perm {pts : List Pt} (g : Gp pts) {a b c d : Int} (h : D4 pts a b c d) {l' : List Int} (pm : [a, b, c, d].Perm l') : inn pts l' = inn pts [a, b, c, d] := by
  have nd : [a, b, c, d].Nodup := by
    simp [h.ab, h.ac, h.ad, h.bc, h.bd, h.cd]
  unfold inn
  rw [← find_perm pm (inP_one g h)]
  exact find_congr fun x hx => inP_perm g pm rfl nd h.mem (pm.mem_iff.mpr hx)
theorem inn_none {pts : List Pt} {a b c d : Int} (h : D4 pts a b c d) (hn : inn pts [a, b, c, d] = none) : noI pts a b c d = true := by
  obtain ⟨e1, e2, e3, e4⟩ := inP4 h
  unfold inn at hn
  rw [List.find?_eq_none] at hn
  have h1 := hn a (by simp)
  have h2 := hn b (by simp)
  have h3 := hn c (by simp)
  have h4 := hn d (by simp)
  rw [e1] at h1
  rw [e2] at h2
  rw [e3] at h3
  rw [e4] at h4
  unfold noI
  simp [h1, h2, h3, h4]
/-! ### in ascending order -/
def srt (l : List Int) : List Int := l.mergeSort fun x y => decide (x ≤ y)
theorem srt_perm (l : List Int) : (srt l).Perm l := List.mergeSort_perm _ _
theorem srt_le (l : List Int) : (srt l).Pairwise (· ≤ ·) := by
  have := List.pairwise_mergeSort (le := fun x y : Int => decide (x ≤ y)) (fun a b c h1 h2 => by simp at *; omega) (fun a b => by simp; omega) l
  exact this.imp fun {a b} h => by simpa using h
theorem srt4 {pts : List Pt} {l : List Int} (h4 : l.length = 4) (nd : l.Nodup) (hr : ∀ x ∈ l, inR2 pts x) : ∃ a b c d, srt l = [a, b, c, d] ∧ D4 pts a b c d ∧ a < b ∧ b < c ∧ c < d := by
  have e : (srt l).length = 4 := by rw [(srt_perm l).length_eq, h4]
  have nd2 : (srt l).Nodup := (srt_perm l).nodup_iff.mpr nd
  have le := srt_le l
  have rr : ∀ x ∈ srt l, inR2 pts x := fun x hx => hr x ((srt_perm l).mem_iff.mp hx)
  generalize srt l = m at *
  match m, e with
  | [a, b, c, d], _ =>
    simp at nd2 le
    obtain ⟨⟨n1, n2, n3⟩, ⟨n4, n5⟩, n6⟩ := nd2
    obtain ⟨⟨l1, l2, l3⟩, ⟨l4, l5⟩, l6⟩ := le
    exact ⟨a, b, c, d, rfl, ⟨rr a (by simp), rr b (by simp), rr c (by simp), rr d (by simp), n1, n2, n3, n4, n5, n6⟩, by omega, by omega, by omega⟩
/-! ### split -/
def prt (pts : List Pt) (l : List Int) : List Int := match l with
  | [a, b, c, d] => match inn pts l with
    | some k => [k]
    | none => diag pts a b c d
  | _ => []
def rst (l part : List Int) : List Int := l.filter fun m => !part.contains m
def spl (pts : List Pt) (l : List Int) : List Int × List Int := if (prt pts l).contains (l.headD 0) = true then (prt pts l, rst l (prt pts l)) else (rst l (prt pts l), prt pts l)
def encS (x : List Int × List Int) : PyData := .tuple [tupI x.1, tupI x.2]
def args_split {K : PySem.W.Frag} {mg : Str → Option Value} (T : Tx K mg) : List Pt × Int × Int × Int × Int → List PV := args_inner_of T
def dom_split : List Pt × Int × Int × Int × Int → Prop := fun a => (∀ p ∈ a.1, near p) ∧ a.1.length ≤ 10 ∧ Gp a.1
def out_split {K : PySem.W.Frag} {mg : Str → Option Value} (T : Tx K mg) : List Pt × Int × Int × Int × Int → Out := fun a => outV K (badNos a.1.length (l4 a)) (encS (spl a.1 (srt (l4 a))))
theorem no_in {pts : List Pt} {x : Int} (h : isNo x pts.length = true) : inR2 pts x := by
  unfold isNo at h
  simp at h
  exact h
theorem diag_len (pts : List Pt) (a b c d : Int) : (diag pts a b c d).length = 2 := by
  unfold diag
  split
  · rfl
  · split <;> rfl
theorem ok_split {P : Program} {w : World} {K : PySem.W.Frag} {mg : Str → Option Value} {base : Heap} (T : Tx K mg) : FnOk P w K mg base (L2.CX P w) 8 T.a_split T.fd_split ["floor", "a", "b", "c", "d"] (Prm K T.M (args_split T) dom_split (out_split T)) := by
  refine T.F_split.okX sc_split (fun vs H Q E h => by obtain ⟨a, F, _, al, _⟩ := h; exact al.length) (fun cdv A outer s H vs Q E hr h => ?_)
  have tk : Takes (cxOf (L2.CX P w) P w K mg base N_split "split" (defScope s_split) T.a_split cdv A outer s H E) (fun cls d _ H => E cls d H) := takes_of rfl rfl rfl rfl
  obtain ⟨a, F, fh, al, hd, th⟩ := h
  refine ⟨_, (pss_cons (ps_set (i := 5) sc_split.nd rfl (by first | exact Or.inl rfl | exact Or.inr rfl) (pe_callS (ok_inner_of T) (hr.mono (by decide)) (by rfl) T.g_inner_of T.F_inner_of.kp (b_inner_of T) (fun σ => passAt tk σ) (pa_cons (pv 0) (pa_cons (pv 1) (pa_cons (pv 2) (pa_cons (pv 3) (pa_cons (pv 4) pa_nil)))))))
      (pss_cons (ps_set (i := 6) sc_split.nd rfl (by first | exact Or.inl rfl | exact Or.inr rfl) (pe_callTy call_tuple_of (by rfl) T.z_tuple PyProof.Rows.boot_tuple (pa_cons (pe_callB cr_sortedI (by rfl) T.z_sorted (by decide +kernel) (pa_cons (pe_lst (pa_cons (pv 1) (pa_cons (pv 2) (pa_cons (pv 3) (pa_cons (pv 4) pa_nil))))) pa_nil)) pa_nil)))
      (pss_cons (ps_set (i := 7) sc_split.nd rfl (by first | exact Or.inl rfl | exact Or.inr rfl) (pe_ifExp (pt_cmpR op_isN1 (pv 5) pe_non (nomark _)) (pe_callS (ok_diagonal T) (hr.mono (by decide)) (by rfl) T.g_diagonal T.F_diagonal.kp (b_diagonal T) (fun σ => passAt tk σ) (pa_cons (pv 0) (pa_cons (pv 6) pa_nil))) (pe_tup (pa_cons (pv 5) pa_nil))))
      (pss_cons (ps_set (i := 8) sc_split.nd rfl (by first | exact Or.inl rfl | exact Or.inr rfl) (pe_callTy call_tuple_of (by rfl) T.z_tuple PyProof.Rows.boot_tuple (pa_cons (pe_lc (own := [("number", 9)]) (g := (gName 9)) (tt := (tTest (tOp (rIn K true) (tVar 9) (tVar 7)))) (te := (tVar 9)) rfl sc_split.nd (pi_tup (pv 6)) (blkOk_by (N := N_split) (sc := defScope s_split) (own := [("number", 9)]) (by decide +kernel)) (fun _ _ _ _ _ => (pg_name (i := 9) sc_split.nd rfl (by first | exact Or.inl rfl | exact Or.inr rfl))) (fun _ _ _ _ _ => by exact pts_one (pt_cmpR op_notIn_seq (pv 9) (pv 7) (by rfl))) (fun _ _ _ _ _ => by exact (pv 9))) pa_nil)))
      (pss_one (ps_ret (pe_ifExp (pt_cmpR op_in_seq (pe_ix ix_tup (pv 6) pe_int (fun _ _ => rfl)) (pv 7) (by rfl)) (pe_tup (pa_cons (pv 7) (pa_cons (pv 8) pa_nil))) (pe_tup (pa_cons (pv 8) (pa_cons (pv 7) pa_nil)))))))))), ?_⟩
  obtain ⟨pts, x, y, z, u⟩ := a
  obtain ⟨hn, hl, g⟩ := hd
  simp only at hl hn g
  let W0 : WX := fun cls d _ H => E cls d H
  let ns : List Int := [x, y, z, u]
  have c1 := je_call (K := K) (M := T.M) (W := W0) (ps := entry N_split (args_split T (pts, x, y, z, u))) (args := args_inner_of T) (dom := dom_inner_of) (out := out_inner_of T) (pts, x, y, z, u) (ja_cons (je_var (i := 0) rfl) (ja_cons (je_var (i := 1) rfl) (ja_cons (je_var (i := 2) rfl) (ja_cons (je_var (i := 3) rfl) (ja_cons (je_var (i := 4) rfl) ja_nil))))) ⟨hn, hl⟩
  have ho : out_inner_of T (pts, x, y, z, u) = outV K (badNos pts.length ns) (optI (inn pts ns)) := rfl
  rw [ho] at c1
  have ho2 : out_split T (pts, x, y, z, u) = outV K (badNos pts.length ns) (encS (spl pts (srt ns))) := rfl
  rw [ho2] at th
  cases hb : badNos pts.length ns with
  | some e =>
    rw [hb] at c1 th
    exact fin_ok (r := .er e) (js_er (js_set_er c1)) (by exact rfl) fh al th
  | none =>
    rw [hb] at c1 th
    obtain ⟨⟨n1, n2, n3, n4⟩, nd⟩ := nos4 hb
    have hr : ∀ k ∈ ns, inR2 pts k := fun k hk => no_in (badNos_no hb k hk)
    obtain ⟨a, b, c, d, es, h4, l1, l2, l3⟩ := srt4 (l := ns) rfl nd hr
    have ei : inn pts ns = inn pts [a, b, c, d] := inn_perm g h4 (es ▸ srt_perm ns)
    rw [ei] at c1
    rw [es] at th
    let L : List Int := [a, b, c, d]
    let P : List Int := prt pts L
    let base : Option PV → Option PV → Option PV → Option PV → Kn := fun q1 q2 q3 q4 => [some (ob1 K T.a_Floor "points" (.tuple (pts.map pD))), some (dv K (.int x)), some (dv K (.int y)), some (dv K (.int z)), some (dv K (.int u)), q1, q2, q3, q4, none]
    have pmL : L.Perm ns := by
      show [a, b, c, d].Perm ns
      rw [← es]
      exact srt_perm ns
    have leL : L.Pairwise (· ≤ ·) := by
      show [a, b, c, d].Pairwise (· ≤ ·)
      rw [← es]
      exact srt_le ns
    have srtd := jn_told (K := K) (M := T.M) (W := W0) (jn_sortI (K := K) (M := T.M) (W := W0) (ps := base (some (dv K (optI (inn pts L)))) none none none) (ns := ns) (ms := L) (je_lst (ds := [.int x, .int y, .int z, .int u]) (ja_cons (je_var (i := 1) rfl) (ja_cons (je_var (i := 2) rfl) (ja_cons (je_var (i := 3) rfl) (ja_cons (je_var (i := 4) rfl) ja_nil))))) pmL leL)
    have part : ∀ q3 q4, JD K T.M W0 (tIf (tTest (tOp rIsN (tVar 5) (tC .non))) (tCallS (Prm K T.M (args_diagonal T) dom_diagonal (out_diagonal T)) (WE W0) (tCons (tVar 0) (tCons (tVar 6) tNil))) (tTup (tCons (tVar 5) tNil))) (base (some (dv K (optI (inn pts L)))) (some (dv K (tupI L))) q3 q4) (tupI P) := fun q3 q4 => by
      cases hi : inn pts L with
      | none =>
        have eP : P = diag pts a b c d := by
          show (match inn pts L with
            | some k => [k]
            | none => diag pts a b c d) = _
          rw [hi]
        rw [eP]
        exact je_if (b := true) (jt_test (je_isN (je_var (i := 5) rfl) (.inr ⟨rfl, rfl⟩))) (fun _ => je_call (args := args_diagonal T) (dom := dom_diagonal) (out := out_diagonal T) (pts, a, b, c, d) (ja_cons (je_var (i := 0) rfl) (ja_cons (je_var (i := 6) rfl) ja_nil)) ⟨hn, hl, g, h4, inn_none h4 hi⟩) (fun z => Bool.noConfusion z)
      | some k =>
        have eP : P = [k] := by
          show (match inn pts L with
            | some k => [k]
            | none => diag pts a b c d) = _
          rw [hi]
        rw [eP]
        exact je_if (b := false) (jt_test (je_isN (je_var (i := 5) rfl) (.inl ⟨(fun z => by cases z), rfl⟩))) (fun z => Bool.noConfusion z) (fun _ => je_tup (ds := [.int k]) (ja_cons (je_var (i := 5) rfl) ja_nil))
    refine fin_ok (r := .rt (dv K (encS (spl pts L)))) (js_seq (js_set (i := 5) c1) (js_seq (js_set (i := 6) (P := dv K (tupI L)) (je_tupL srtd)) (js_seq (js_set (i := 7) (P := dv K (tupI P)) (part none none)) (js_seq (js_set (i := 8) (P := dv K (tupI (rst L P))) (je_tupL (je_lc (W' := fun _ _ _ _ => False) L .int (fun m => !P.contains m) .int (ji_tup (je_var (i := 6) rfl)) (show 4 ≤ 90000 by decide) fun m hm => ⟨_, jg_name, jt_test (je_notInT (je_var (i := 9) rfl) (je_var (i := 7) rfl)), fun _ => je_var (i := 9) rfl⟩)))
      (js_ret (je_if (b := P.contains a) (jt_test (je_inT (je_ixT (ds := L.map .int) (je_var (i := 6) rfl) (je_int (i := ((0 : Nat) : Int))) (atI_nat rfl)) (je_var (i := 7) rfl))) (fun hc => je_is (je_tup (ds := [tupI P, tupI (rst L P)]) (ja_cons (je_var (i := 7) rfl) (ja_cons (je_var (i := 8) rfl) ja_nil))) ?_) (fun hc => je_is (je_tup (ds := [tupI (rst L P), tupI P]) (ja_cons (je_var (i := 8) rfl) (ja_cons (je_var (i := 7) rfl) ja_nil))) ?_))))))) (by exact rfl) fh al th
    · show _ = encS (if P.contains a = true then (P, rst L P) else (rst L P, P))
      rw [if_pos hc]
      rfl
    · show _ = encS (if P.contains a = true then (P, rst L P) else (rst L P, P))
      rw [hc]
      rfl
end K11

namespace K11
open PySem PySem.Spec PyProof.Rows L2 Evl EB PySem.W
section
variable {K : PySem.W.Frag} {M : EC → Addr} {W : WX} {ps : Kn} {te ta tb : TE}
theorem rNe_bl {a b : Bool} {x y : V} {F H : Hp} {Q : VK} (p : Dp K F x (.bool a)) (q : Dp K F y (.bool b)) (k : Q (.bl (a != b)) H) : rNe x y H Q := by
  rw [dp_bl p, dp_bl q]
  refine ⟨rfl, ?_⟩
  have e : (!decide (V.bl a = V.bl b)) = (a != b) := by
    cases a <;> cases b <;> simp
  rw [e]
  exact k
theorem je_neB {a b : Bool} (ha : JD K M W ta ps (.bool a)) (hb : JD K M W tb ps (.bool b)) : JD K M W (tOp rNe ta tb) ps (.bool (a != b)) := je_op ha hb fun x y F H fh p q Q k => rNe_bl p q (k _ F H (Gr.refl fh) (.bl _))
end
/-! ### the law's own four -/
def args__law_is_within {K : PySem.W.Frag} {mg : Str → Option Value} (T : Tx K mg) : Pt × Pt × Pt × Pt → List PV := fun a => [dv K (pD a.2.2.2), dv K (pD a.1), dv K (pD a.2.1), dv K (pD a.2.2.1)]
def dom__law_is_within : Pt × Pt × Pt × Pt → Prop := dom_is_within
def out__law_is_within {K : PySem.W.Frag} {mg : Str → Option Value} (T : Tx K mg) : Pt × Pt × Pt × Pt → Out := out_is_within T
theorem ok__law_is_within {P : Program} {w : World} {K : PySem.W.Frag} {mg : Str → Option Value} {base : Heap} (T : Tx K mg) : FnOk P w K mg base (L2.CX P w) 2 T.a__law_is_within T.fd__law_is_within ["p", "a", "b", "c"] (Prm K T.M (args__law_is_within T) dom__law_is_within (out__law_is_within T)) := by
  refine T.F__law_is_within.okX sc__law_is_within (fun vs H Q E h => by obtain ⟨a, F, _, al, _⟩ := h; exact al.length) (fun cdv A outer s H vs Q E hr h => ?_)
  have tk : Takes (cxOf (L2.CX P w) P w K mg base N__law_is_within "_law_is_within" (defScope s__law_is_within) T.a__law_is_within cdv A outer s H E) (fun cls d _ H => E cls d H) := takes_of rfl rfl rfl rfl
  obtain ⟨a, F, fh, al, hd, th⟩ := h
  refine ⟨_, (pss_cons (ps_set (i := 4) sc__law_is_within.nd rfl (by first | exact Or.inl rfl | exact Or.inr rfl) (pe_cmpR op_gt (pe_callS (ok__law_area T) (hr.mono (by decide)) (by rfl) T.g__law_area T.F__law_area.kp (b__law_area T) (fun σ => passAt tk σ) (pa_cons (pv 1) (pa_cons (pv 2) (pa_cons (pv 0) pa_nil)))) pe_int (nomark _)))
      (pss_cons (ps_set (i := 5) sc__law_is_within.nd rfl (by first | exact Or.inl rfl | exact Or.inr rfl) (pe_cmpR op_gt (pe_callS (ok__law_area T) (hr.mono (by decide)) (by rfl) T.g__law_area T.F__law_area.kp (b__law_area T) (fun σ => passAt tk σ) (pa_cons (pv 2) (pa_cons (pv 3) (pa_cons (pv 0) pa_nil)))) pe_int (nomark _)))
      (pss_cons (ps_set (i := 6) sc__law_is_within.nd rfl (by first | exact Or.inl rfl | exact Or.inr rfl) (pe_cmpR op_gt (pe_callS (ok__law_area T) (hr.mono (by decide)) (by rfl) T.g__law_area T.F__law_area.kp (b__law_area T) (fun σ => passAt tk σ) (pa_cons (pv 3) (pa_cons (pv 1) (pa_cons (pv 0) pa_nil)))) pe_int (nomark _)))
      (pss_one (ps_ret (pe_and (pe_cmpR op_eq (pv 4) (pv 5) (nomark _)) (pe_one (pe_cmpR op_eq (pv 5) (pv 6) (nomark _))))))))), ?_⟩
  obtain ⟨p, q, r, s0⟩ := a
  obtain ⟨h1, h2, h3, h4⟩ := hd
  exact fin_ok (r := .rt (dv K (.bool (FV.wi gA p q r s0)))) (js_seq (js_set (i := 4) (je_lawA T (je_var (i := 1) rfl) (je_var (i := 2) rfl) (je_var (i := 0) rfl) h1 h2 h4)) (js_seq (js_set (i := 5) (je_lawA T (je_var (i := 2) rfl) (je_var (i := 3) rfl) (je_var (i := 0) rfl) h2 h3 h4)) (js_seq (js_set (i := 6) (je_lawA T (je_var (i := 3) rfl) (je_var (i := 1) rfl) (je_var (i := 0) rfl) h3 h1 h4))
    (js_ret (je_andV (je_eqB (je_var (i := 4) rfl) (je_var (i := 5) rfl)) fun _ => je_eqB (je_var (i := 5) rfl) (je_var (i := 6) rfl)))))) (by exact rfl) fh al th
def Four (n : Nat) (l : List Int) : Prop := l.length = 4 ∧ l.Nodup ∧ ∀ x ∈ l, isNo x n = true
theorem js_seqC2 {K : PySem.W.Frag} {M : EC → Addr} {W : WX} {ps qs rs : Kn} {ts tu : TS} {b : Bool} {d : PyData} (h : JS K M W ts ps (.nx qs)) (h2 : JS K M W tu qs (cond b (.rt (dv K d)) (.nx rs))) (hq : qs.length = ps.length := by first | rfl | (simp; done)) : JS K M W (tSeq ts tu) ps (cond b (.rt (dv K d)) (.nx rs)) := js_seq h h2 hq
def args__law_inner {K : PySem.W.Frag} {mg : Str → Option Value} (T : Tx K mg) : List Pt × Bool × List Int → List PV := fun a => [dv K (.list (a.1.map pD)), dv K (sq a.2.1 (a.2.2.map .int))]
def dom__law_inner : List Pt × Bool × List Int → Prop := fun a => (∀ p ∈ a.1, near p) ∧ Four a.1.length a.2.2
def out__law_inner {K : PySem.W.Frag} {mg : Str → Option Value} (T : Tx K mg) : List Pt × Bool × List Int → Out := fun a => .ok (dv K (optI (inn a.1 a.2.2)))
theorem inP_three {pts : List Pt} {l : List Int} {k : Int} (h : Four pts.length l) (hk : k ∈ l) : ∃ u v w0, rmI l k = [u, v, w0] ∧ inP pts l k = FV.wi gA (pt pts u) (pt pts v) (pt pts w0) (pt pts k) ∧ isNo u pts.length = true ∧ isNo v pts.length = true ∧ isNo w0 pts.length = true ∧ isNo k pts.length = true := by
  have h3 := rm_three h.1 h.2.1 hk
  have hm : ∀ x ∈ rmI l k, isNo x pts.length = true := fun x hx => h.2.2 x (rm_mem.mp hx).1
  have nk : k ∉ rmI l k := fun z => (rm_mem.mp z).2 rfl
  unfold inP
  generalize rmI l k = t at *
  match t, h3 with
  | [u, v, w0], _ => exact ⟨u, v, w0, rfl, inT_ar nk, hm u (by simp), hm v (by simp), hm w0 (by simp), h.2.2 k hk⟩
theorem ok__law_inner {P : Program} {w : World} {K : PySem.W.Frag} {mg : Str → Option Value} {base : Heap} (T : Tx K mg) : FnOk P w K mg base (L2.CX P w) 3 T.a__law_inner T.fd__law_inner ["points", "four"] (Prm K T.M (args__law_inner T) dom__law_inner (out__law_inner T)) := by
  refine T.F__law_inner.okX sc__law_inner (fun vs H Q E h => by obtain ⟨a, F, _, al, _⟩ := h; exact al.length) (fun cdv A outer s H vs Q E hr h => ?_)
  have tk : Takes (cxOf (L2.CX P w) P w K mg base N__law_inner "_law_inner" (defScope s__law_inner) T.a__law_inner cdv A outer s H E) (fun cls d _ H => E cls d H) := takes_of rfl rfl rfl rfl
  obtain ⟨a, F, fh, al, hd, th⟩ := h
  refine ⟨_, (pss_cons (ps_for (passes_of rfl) rfl (pi_seqQ (pv 1)) (pg_name (i := 2) sc__law_inner.nd rfl (by first | exact Or.inl rfl | exact Or.inr rfl)) (pss_cons (ps_asg (pe_lc (own := [("k", 6)]) (g := (gName 6)) (tt := (tTest (tOp rNe (tVar 6) (tVar 2)))) (te := (tOp (rIxL K) (tVar 0) (tVar 6))) rfl sc__law_inner.nd (pi_seqQ (pv 1)) (blkOk_by (N := N__law_inner) (sc := defScope s__law_inner) (own := [("k", 6)]) (by decide +kernel)) (fun _ _ _ _ _ => (pg_name (i := 6) sc__law_inner.nd rfl (by first | exact Or.inl rfl | exact Or.inr rfl))) (fun _ _ _ _ _ => by exact pts_one (pt_cmpR op_ne (pv 6) (pv 2) (nomark _))) (fun _ _ _ _ _ => by exact (pe_ix ix_list (pv 0) (pv 6) (fun _ _ => rfl)))) (pg_unl rfl (pgs_cons (pg_name (i := 3) sc__law_inner.nd rfl (by first | exact Or.inl rfl | exact Or.inr rfl)) (pgs_cons (pg_name (i := 4) sc__law_inner.nd rfl (by first | exact Or.inl rfl | exact Or.inr rfl)) (pgs_cons (pg_name (i := 5) sc__law_inner.nd rfl (by first | exact Or.inl rfl | exact Or.inr rfl)) pgs_nil)))))
      (pss_one (ps_if (pt_val (pe_callS (ok__law_is_within T) (hr.mono (by decide)) (by rfl) T.g__law_is_within T.F__law_is_within.kp (b__law_is_within T) (fun σ => passAt tk σ) (pa_cons (pe_ix ix_list (pv 0) (pv 2) (fun _ _ => rfl)) (pa_cons (pv 3) (pa_cons (pv 4) (pa_cons (pv 5) pa_nil)))))) (pss_one (ps_ret (pv 2))) pss_nil))))
      (pss_one (ps_ret pe_non))), ?_⟩
  obtain ⟨pts, b, l⟩ := a
  obtain ⟨hn, h4⟩ := hd
  simp only at hn h4
  refine fin_ok (r := .rt (dv K (optI (inn pts l)))) (js_findR (vs := [2]) l (inP pts l) (ji_seqQ (b := b) (je_var (i := 1) rfl)) (fun k hk => ⟨_, jg_name, ?_⟩) (js_ret je_non)) (by exact rfl) fh al th
  obtain ⟨u, v, w0, e1, e2, n1, n2, n3, n4⟩ := inP_three h4 hk
  rw [e2]
  refine js_seqC2 (js_asg (vs := [3, 4, 5]) (P := dv K (.list [pD (pt pts u), pD (pt pts v), pD (pt pts w0)])) (je_is (je_lc (W' := fun _ _ _ _ => False) l .int (fun m => decide (m ≠ k)) (fun m => pD (pt pts m)) (ji_seqQ (b := b) (je_var (i := 1) rfl)) (by rw [h4.1]; decide) fun m hm => ⟨_, jg_name, jt_test (je_neI2 (je_var (i := 6) rfl) (je_var (i := 2) rfl)), fun _ => je_ixL (je_var (i := 0) rfl) (je_var (i := 6) rfl) (at_pt (h4.2.2 m hm))⟩) ?_) (jg_unl (ds := [pD (pt pts u), pD (pt pts v), pD (pt pts w0)]) (jgs_cons jg_name (jgs_cons jg_name (jgs_cons jg_name jgs_nil)))))
    (js_ifC (jt_B (je_call (args := args__law_is_within T) (dom := dom__law_is_within) (out := out__law_is_within T) (pt pts u, pt pts v, pt pts w0, pt pts k) (ja_cons (je_ixL (je_var (i := 0) rfl) (je_var (i := 2) rfl) (at_pt n4)) (ja_cons (je_var (i := 3) rfl) (ja_cons (je_var (i := 4) rfl) (ja_cons (je_var (i := 5) rfl) ja_nil)))) ⟨near_pt hn _, near_pt hn _, near_pt hn _, near_pt hn _⟩)) (je_var (i := 2) rfl) ⟨.inr rfl, .inr rfl, .inl rfl, .inl rfl, .inl rfl, .inl rfl, .inr rfl, trivial⟩)
  have e3 : (l.filter fun m => decide (m ≠ k)) = [u, v, w0] := e1
  rw [e3]
  rfl
/-! ### the two diagonals -/
def dpa (pts : List Pt) (a b c d : Int) : List (List Int) := if diagK pts a b c d = true then [[a, b], [c, d]] else if diagK pts a c b d = true then [[a, c], [b, d]] else [[a, d], [b, c]]
def args__law_diagonals {K : PySem.W.Frag} {mg : Str → Option Value} (T : Tx K mg) : List Pt × Int × Int × Int × Int → List PV := fun a => [dv K (.list (a.1.map pD)), dv K (.list ((l4 a).map .int))]
def dom__law_diagonals : List Pt × Int × Int × Int × Int → Prop := dom_diagonal
def out__law_diagonals {K : PySem.W.Frag} {mg : Str → Option Value} (T : Tx K mg) : List Pt × Int × Int × Int × Int → Out := fun a => .ok (dv K (.list ((dpa a.1 a.2.1 a.2.2.1 a.2.2.2.1 a.2.2.2.2).map tupI)))
theorem r2_no {pts : List Pt} {x : Int} (h : inR2 pts x) : isNo x pts.length = true := by
  unfold isNo
  simp [h.1, h.2]
theorem js_firstD {K : PySem.W.Frag} {M : EC → Addr} {W : WX} {ps : Kn} {vs : List Nat} {wi : TI} {g : TG} {tb : TS} (L : List Int) (f : Int → Option PyData) (d : PyData) (hf : L.findSome? f = some d) (hi : JI K M W wi ps (L.map .int))
    (hs : ∀ x ∈ L, ∃ qs, JG vs g ps (dv K (.int x)) qs ∧ JS K M W tb qs (ends ps ((f x).map fun d => .ok (dv K d)))) : JS K M W (tFor wi g tb) ps (.rt (dv K d)) := by
  have := js_first (M := M) (W := W) (vs := vs) L .int f (fun d => .ok (dv K d)) hi hs
  rw [hf] at this
  exact this
theorem js_toE {K : PySem.W.Frag} {M : EC → Addr} {W : WX} {ps rs : Kn} {ts : TS} {b : Bool} {d : PyData} (h : JS K M W ts ps (cond b (.rt (dv K d)) (.nx rs))) : JS K M W ts ps (ends rs ((if b = true then some d else none : Option PyData).map fun d => .ok (dv K d))) := by
  cases b <;> exact h
theorem ok__law_diagonals {P : Program} {w : World} {K : PySem.W.Frag} {mg : Str → Option Value} {base : Heap} (T : Tx K mg) : FnOk P w K mg base (L2.CX P w) 2 T.a__law_diagonals T.fd__law_diagonals ["points", "four"] (Prm K T.M (args__law_diagonals T) dom__law_diagonals (out__law_diagonals T)) := by
  refine T.F__law_diagonals.okX sc__law_diagonals (fun vs H Q E h => by obtain ⟨a, F, _, al, _⟩ := h; exact al.length) (fun cdv A outer s H vs Q E hr h => ?_)
  have tk : Takes (cxOf (L2.CX P w) P w K mg base N__law_diagonals "_law_diagonals" (defScope s__law_diagonals) T.a__law_diagonals cdv A outer s H E) (fun cls d _ H => E cls d H) := takes_of rfl rfl rfl rfl
  obtain ⟨a, F, fh, al, hd, th⟩ := h
  refine ⟨_, (pss_cons (ps_set (i := 2) sc__law_diagonals.nd rfl (by first | exact Or.inl rfl | exact Or.inr rfl) (pe_ix ix_list (pv 0) (pe_ix ix_list (pv 1) pe_int (fun _ _ => rfl)) (fun _ _ => rfl)))
      (pss_cons (ps_for (passes_of rfl) rfl (pi_tup (pe_tup (pa_cons pe_int (pa_cons pe_int (pa_cons pe_int pa_nil))))) (pg_name (i := 3) sc__law_diagonals.nd rfl (by first | exact Or.inl rfl | exact Or.inr rfl)) (pss_cons (ps_set (i := 4) sc__law_diagonals.nd rfl (by first | exact Or.inl rfl | exact Or.inr rfl) (pe_ix ix_list (pv 0) (pe_ix ix_list (pv 1) (pv 3) (fun _ _ => rfl)) (fun _ _ => rfl)))
      (pss_cons (ps_setLc (i := 5) (own := [("number", 6)]) (g := (gName 6)) (tt := (tTest (tOp rNe (tVar 6) (tOp (rIxL K) (tVar 1) (tVar 3))))) (te := (tVar 6)) rfl sc__law_diagonals.nd rfl rfl (sw_true rfl rfl rfl (by decide +kernel)) (pi_list (pe_slice sl_list (pv 1) (po_some pe_int) po_none)) (blkOk_by (N := N__law_diagonals) (sc := defScope s__law_diagonals) (own := [("number", 6)]) (by decide +kernel)) (fun _ _ _ _ _ => (pg_name (i := 6) sc__law_diagonals.nd rfl (by first | exact Or.inl rfl | exact Or.inr rfl))) (fun _ _ _ _ _ => by exact pts_one (pt_cmpR op_ne (pv 6) (pe_ix ix_list (pv 1) (pv 3) (fun _ _ => rfl)) (nomark _))) (fun _ _ _ _ _ => by exact (pv 6)))
      (pss_cons (ps_set (i := 7) sc__law_diagonals.nd rfl (by first | exact Or.inl rfl | exact Or.inr rfl) (pe_ix ix_list (pv 0) (pe_ix ix_list (pv 5) pe_int (fun _ _ => rfl)) (fun _ _ => rfl)))
      (pss_cons (ps_set (i := 8) sc__law_diagonals.nd rfl (by first | exact Or.inl rfl | exact Or.inr rfl) (pe_ix ix_list (pv 0) (pe_ix ix_list (pv 5) pe_int (fun _ _ => rfl)) (fun _ _ => rfl)))
      (pss_cons (ps_set (i := 9) sc__law_diagonals.nd rfl (by first | exact Or.inl rfl | exact Or.inr rfl) (pe_cmpR op_ne (pe_cmpR op_gt (pe_callS (ok__law_area T) (hr.mono (by decide)) (by rfl) T.g__law_area T.F__law_area.kp (b__law_area T) (fun σ => passAt tk σ) (pa_cons (pv 2) (pa_cons (pv 4) (pa_cons (pv 7) pa_nil)))) pe_int (nomark _)) (pe_cmpR op_gt (pe_callS (ok__law_area T) (hr.mono (by decide)) (by rfl) T.g__law_area T.F__law_area.kp (b__law_area T) (fun σ => passAt tk σ) (pa_cons (pv 2) (pa_cons (pv 4) (pa_cons (pv 8) pa_nil)))) pe_int (nomark _)) (nomark _)))
      (pss_cons (ps_set (i := 10) sc__law_diagonals.nd rfl (by first | exact Or.inl rfl | exact Or.inr rfl) (pe_cmpR op_ne (pe_cmpR op_gt (pe_callS (ok__law_area T) (hr.mono (by decide)) (by rfl) T.g__law_area T.F__law_area.kp (b__law_area T) (fun σ => passAt tk σ) (pa_cons (pv 7) (pa_cons (pv 8) (pa_cons (pv 2) pa_nil)))) pe_int (nomark _)) (pe_cmpR op_gt (pe_callS (ok__law_area T) (hr.mono (by decide)) (by rfl) T.g__law_area T.F__law_area.kp (b__law_area T) (fun σ => passAt tk σ) (pa_cons (pv 7) (pa_cons (pv 8) (pa_cons (pv 4) pa_nil)))) pe_int (nomark _)) (nomark _)))
      (pss_one (ps_if (PW.pt (pw_and (pt_val (pv 9)) (pw_and1 (pt_val (pv 10))))) (pss_one (ps_ret (pe_lst (pa_cons (pe_tup (pa_cons (pe_ix ix_list (pv 1) pe_int (fun _ _ => rfl)) (pa_cons (pe_ix ix_list (pv 1) (pv 3) (fun _ _ => rfl)) pa_nil))) (pa_cons (pe_callTy call_tuple_of (by rfl) T.z_tuple PyProof.Rows.boot_tuple (pa_cons (pv 5) pa_nil)) pa_nil))))) pss_nil)))))))))
      (pss_one (ps_ret (pe_lst pa_nil))))), ?_⟩
  obtain ⟨pts, x, y, z, u⟩ := a
  obtain ⟨hn, hl, g, h4, hno⟩ := hd
  simp only at hl hn g h4 hno
  let W0 : WX := fun cls d _ H => E cls d H
  let L : List Int := [x, y, z, u]
  let D := (dpa pts x y z u).map tupI
  have one := dg_one (h4.sg g) hno
  let base : Option PV → Kn := fun q => [some (dv K (.list (pts.map pD))), some (dv K (.list (L.map .int))), some (dv K (pD (pt pts x))), q, none, none, none, none, none, none, none]
  let f : Int → Option PyData := fun k => if k = 1 then (if diagK pts x y z u = true then some (.list ([[x, y], [z, u]].map tupI)) else none) else if k = 2 then (if diagK pts x z y u = true then some (.list ([[x, z], [y, u]].map tupI)) else none) else (if diagK pts x u y z = true then some (.list ([[x, u], [y, z]].map tupI)) else none)
  have ef : [1, 2, 3].findSome? f = some (.list D) := by
    simp only [List.findSome?_cons, List.findSome?_nil, f, D, dpa]
    cases q1 : diagK pts x y z u with
    | true => simp
    | false =>
      cases q2 : diagK pts x z y u with
      | true => simp
      | false =>
        cases q3 : diagK pts x u y z with
        | true => simp
        | false =>
          rw [q1, q2, q3] at one
          cases one
  have lv1 : ∀ ps : Kn, ps[1]? = some (some (dv K (.list (L.map .int)))) → JD K T.M W0 (tVar 1) ps (.list (L.map .int)) := fun ps h => je_var (i := 1) h
  -- one pass, for the number k at whose place q stands, r and s being the others
  have pass : ∀ (k : Nat) (q r s0 : Int), L[k]? = some q → ([y, z, u].filter fun m => decide (m ≠ q)) = [r, s0] → inR2 pts q → inR2 pts r → inR2 pts s0 → JS K T.M W0 (tSeq (tAsg (tOp (rIxL K) (tVar 0) (tOp (rIxL K) (tVar 1) (tVar 3))) (gName 4)) (tSeq (tAsg (tLc (iList K (tSl (rSlL K) (tVar 1) (tPart (tC (.int 1))) tNoPart)) (gName 6) (tTest (tOp rNe (tVar 6) (tOp (rIxL K) (tVar 1) (tVar 3)))) (tVar 6) [6]) (gName 5)) (tSeq (tAsg (tOp (rIxL K) (tVar 0) (tOp (rIxL K) (tVar 5) (tC (.int 0)))) (gName 7)) (tSeq (tAsg (tOp (rIxL K) (tVar 0) (tOp (rIxL K) (tVar 5) (tC (.int 1)))) (gName 8)) (tSeq (tAsg (tOp rNe (tOp (rI0 fun i j => .bl (decide (j < i))) (tCallS (Prm K T.M (args__law_area T) dom__law_area (out__law_area T)) (WE W0) (tCons (tVar 2) (tCons (tVar 4) (tCons (tVar 7) tNil)))) (tC (.int 0))) (tOp (rI0 fun i j => .bl (decide (j < i))) (tCallS (Prm K T.M (args__law_area T) dom__law_area (out__law_area T)) (WE W0) (tCons (tVar 2) (tCons (tVar 4) (tCons (tVar 8) tNil)))) (tC (.int 0)))) (gName 9)) (tSeq (tAsg (tOp rNe (tOp (rI0 fun i j => .bl (decide (j < i))) (tCallS (Prm K T.M (args__law_area T) dom__law_area (out__law_area T)) (WE W0) (tCons (tVar 7) (tCons (tVar 8) (tCons (tVar 2) tNil)))) (tC (.int 0))) (tOp (rI0 fun i j => .bl (decide (j < i))) (tCallS (Prm K T.M (args__law_area T) dom__law_area (out__law_area T)) (WE W0) (tCons (tVar 7) (tCons (tVar 8) (tCons (tVar 4) tNil)))) (tC (.int 0)))) (gName 10)) (tIfS (tAnd (tTest (tVar 9)) (tTest (tVar 10))) (tRet (tLst (tCons (tTup (tCons (tOp (rIxL K) (tVar 1) (tC (.int 0))) (tCons (tOp (rIxL K) (tVar 1) (tVar 3)) tNil))) (tCons (tCB (rTupS K) (tCons (tVar 5) tNil)) tNil)))) tNext))))))) (base (some (dv K (.int (k : Nat))))) (ends (base none) ((if diagK pts x q r s0 = true then some (.list ([[x, q], [r, s0]].map tupI)) else none : Option PyData).map fun d => .ok (dv K d))) := fun k q r s0 hk hf rq rr rs => by
    have n1 := near_pt hn x
    have n2 := near_pt hn q
    have n3 := near_pt hn r
    have n4 := near_pt hn s0
    have ixk : ∀ ps : Kn, ps[1]? = some (some (dv K (.list (L.map .int)))) → ps[3]? = some (some (dv K (.int (k : Nat)))) → JD K T.M W0 (tOp (rIxL K) (tVar 1) (tVar 3)) ps (.int q) := fun ps e1 e3 => je_ixL (lv1 ps e1) (je_var (i := 3) e3) (atI_nat (by rw [List.getElem?_map, hk]; rfl))
    refine js_toE ?_
    exact js_seqC2 (js_set (i := 4) (P := dv K (pD (pt pts q))) (je_ixL (je_var (i := 0) rfl) (ixk _ rfl rfl) (at_pt (r2_no rq))))
        (js_seqC2 (js_set (i := 5) (P := dv K (.list ([r, s0].map .int))) (je_is (je_lc (vs := [6]) (W' := fun _ _ _ _ => False) [y, z, u] .int (fun m => decide (m ≠ q)) .int (ji_list (je_is (je_slL (ds := L.map .int) (lv1 _ rfl) (jo_some (i := ((1 : Nat) : Int)) je_int) jo_none) (by rw [cut_one]))) (show 3 ≤ 90000 by decide) fun m hm => ⟨_, jg_name, jt_test (je_neI2 (je_var (i := 6) rfl) (ixk _ rfl rfl)), fun _ => je_var (i := 6) rfl⟩) (by rw [hf])))
        (js_seqC2 (js_set (i := 7) (P := dv K (pD (pt pts r))) (je_ixL (je_var (i := 0) rfl) (je_ixL (ds := [r, s0].map .int) (je_var (i := 5) rfl) (je_int (i := ((0 : Nat) : Int))) (atI_nat rfl)) (at_pt (r2_no rr))))
        (js_seqC2 (js_set (i := 8) (P := dv K (pD (pt pts s0))) (je_ixL (je_var (i := 0) rfl) (je_ixL (ds := [r, s0].map .int) (je_var (i := 5) rfl) (je_int (i := ((1 : Nat) : Int))) (atI_nat rfl)) (at_pt (r2_no rs))))
        (js_seqC2 (js_set (i := 9) (je_neB (je_lawA T (je_var (i := 2) rfl) (je_var (i := 4) rfl) (je_var (i := 7) rfl) n1 n2 n3) (je_lawA T (je_var (i := 2) rfl) (je_var (i := 4) rfl) (je_var (i := 8) rfl) n1 n2 n4)))
        (js_seqC2 (js_set (i := 10) (je_neB (je_lawA T (je_var (i := 7) rfl) (je_var (i := 8) rfl) (je_var (i := 2) rfl) n3 n4 n1) (je_lawA T (je_var (i := 7) rfl) (je_var (i := 8) rfl) (je_var (i := 4) rfl) n3 n4 n2)))
        (js_ifC (jt_and (jt_B (je_var (i := 9) rfl)) fun _ => jt_B (je_var (i := 10) rfl)) (je_lst (ds := [tupI [x, q], tupI [r, s0]]) (ja_cons (je_tup (ds := [.int x, .int q]) (ja_cons (je_ixL (ds := L.map .int) (lv1 _ rfl) (je_int (i := ((0 : Nat) : Int))) (atI_nat rfl)) (ja_cons (ixk _ rfl rfl) ja_nil))) (ja_cons (je_tupL (ds := [r, s0].map .int) (je_var (i := 5) rfl)) ja_nil))) ⟨.inr rfl, .inr rfl, .inr rfl, .inl rfl, .inl rfl, .inl rfl, .inr rfl, .inl rfl, .inl rfl, .inl rfl, .inl rfl, trivial⟩))))))
  refine fin_ok (r := .rt (dv K (.list D))) (js_seq (js_set (i := 2) (P := dv K (pD (pt pts x))) (je_ixL (je_var (i := 0) rfl) (je_ixL (ds := L.map .int) (lv1 _ rfl) (je_int (i := ((0 : Nat) : Int))) (atI_nat rfl)) (at_pt (r2_no h4.ra)))) (js_rt (js_firstD (vs := [3]) [1, 2, 3] f (.list D) ef (ji_is (ji_tup (je_tup (ds := [.int 1, .int 2, .int 3]) (ja_cons je_int (ja_cons je_int (ja_cons je_int ja_nil))))) rfl) fun k hk => ⟨_, jg_name, ?_⟩))) (by exact rfl) fh al th
  simp only [List.mem_cons, List.not_mem_nil, or_false] at hk
  rcases hk with rfl | rfl | rfl
  · exact pass 1 y z u rfl (by simp [Ne.symm h4.bc, Ne.symm h4.bd]) h4.rb h4.rc h4.rd
  · exact pass 2 z y u rfl (by simp [h4.bc, Ne.symm h4.cd]) h4.rc h4.rb h4.rd
  · exact pass 3 u y z rfl (by simp [h4.bd, h4.cd]) h4.rd h4.rb h4.rc
end K11

namespace K11
open PySem PySem.Spec PyProof.Rows L2 Evl EB PySem.W
section
variable {K : PySem.W.Frag} {M : EC → Addr} {W : WX} {ps : Kn} {te : TE}
/-- xs.extend(e), e a plain list -/
theorem jl_ext {D : Addr} {F1 H1 : Hp} {i : Nat} {ds es : List PyData} (hi : ps[i]? = some (some (xv (.ref D)))) (hD : H1 D = none) (h : JV K M W te ps (lv K es)) (hl : ds.length + es.length ≤ 100000) : JL K M W D F1 H1 (tDrop (tBM K "list" rExtend (tVar i) (tCons te tNil))) ps ds (.nx ps (ds ++ es)) := fun Dn σ F H A S k => by
  obtain ⟨acc0, h0, _⟩ := A.at_
  refine ⟨.ref D, sl_at S hi, (.inl ⟨rfl, acc0, sq_of h0⟩), h.go A.gr.fh S fun v F2 H2 g p => ?_⟩
  have A2 := A.step g
  obtain ⟨acc, h2, hd⟩ := A2.at_
  obtain ⟨b, zs, rfl, hb, hz⟩ := p
  exact ⟨D, b, acc, zs, rfl, rfl, h2, g.fh _ _ hb, sz_of (by rw [dpLength hd, dpLength hz]; exact hl), k σ F2 _ ⟨gr_mut A2.gr hD A2.off, A2.off, _, upd_same, dpApp hd hz⟩ g.ff (S.mono g.ff)⟩
end
theorem jl_grow {K : PySem.W.Frag} {M : EC → Addr} {W : WX} {D : Addr} {F1 H1 : Hp} {ps : Kn} {ds : List PyData} {vs : List Nat} {wi : TI} {g : TG} {tb : TS} {α : Type} (B : Nat) (xs : List α) (enc : α → PyData) (out : α → List PyData) (hi : JI K M W wi ps (xs.map enc))
    (hs : ∀ x ∈ xs, ∀ es : List PyData, es.length + (out x).length ≤ B → ∃ qs, JG vs g ps (dv K (enc x)) qs ∧ JL K M W D F1 H1 tb qs es (.nx ps (es ++ out x))) (hB : ds.length + (xs.flatMap out).length ≤ B) : JL K M W D F1 H1 (tFor wi g tb) ps ds (.nx ps (ds ++ xs.flatMap out)) := by
  refine jl_is (jl_for (vs := vs) (xs.map enc) (fun _ => ps) (fun i => ds ++ (xs.take i).flatMap out) hi rfl (by simp) fun i d hd => ?_) (by rw [List.length_map, List.take_length])
  have hlt : i < xs.length := by
    have := (List.getElem?_eq_some_iff.mp hd).1
    rw [List.length_map] at this
    exact this
  rw [List.getElem?_map, List.getElem?_eq_getElem hlt] at hd
  cases hd
  have e := flatMap_take_succ (f := out) (List.getElem?_eq_getElem hlt)
  have le := flatMap_take_le out xs (i + 1)
  rw [e, List.length_append] at le
  obtain ⟨qs, hg, hb⟩ := hs xs[i] (List.getElem_mem hlt) (ds ++ (xs.take i).flatMap out) (by rw [List.length_append]; omega)
  refine ⟨qs, hg, jl_is hb ?_⟩
  rw [e, List.append_assoc]
theorem flat_if {α β : Type} (p : α → Bool) (f : α → β) : ∀ l : List α, (l.flatMap fun x => if p x = true then [f x] else []) = (l.filter p).map f
  | [] => rfl
  | a :: r => by
    rw [List.flatMap_cons, flat_if p f r, List.filter_cons]
    cases p a <;> rfl
/-! ### the order -/
structure OS where
  pool : List Int
  ord : List Int
  c : Int
def osStep (k : Nat) (s : OS) : OS := ⟨s.pool.eraseIdx (s.c % (k : Int)).toNat, s.ord ++ [s.pool.getD (s.c % (k : Int)).toNat 0], s.c / (k : Int)⟩
def osAt (c : Int) : Nat → OS
  | 0 => ⟨[0, 1, 2, 3], [], c⟩
  | j + 1 => osStep (4 - j) (osAt c j)
def ordL (c : Int) : List Int := (osAt c 4).ord
theorem mod_nat {c : Int} {k : Nat} (h : 0 < k) : c % (k : Int) = ((c % (k : Int)).toNat : Int) ∧ (c % (k : Int)).toNat < k := by
  have h1 : 0 ≤ c % (k : Int) := Int.emod_nonneg _ (by omega)
  have h2 : c % (k : Int) < k := Int.emod_lt_of_pos _ (by omega)
  omega
theorem os_len (c : Int) : ∀ j : Nat, j ≤ 4 → (osAt c j).pool.length = 4 - j ∧ (osAt c j).ord.length = j
  | 0, _ => ⟨rfl, rfl⟩
  | j + 1, h => by
    obtain ⟨h1, h2⟩ := os_len c j (by omega)
    have h3 := (mod_nat (c := (osAt c j).c) (k := 4 - j) (by omega)).2
    refine ⟨?_, ?_⟩
    · show ((osAt c j).pool.eraseIdx _).length = _
      rw [List.length_eraseIdx, h1, if_pos h3]
      omega
    · show ((osAt c j).ord ++ [_]).length = _
      rw [List.length_append, h2]
      rfl
theorem erase_perm : ∀ {l : List Int} {i : Nat}, (h : i < l.length) → (l.getD i 0 :: l.eraseIdx i).Perm l
  | a :: r, 0, _ => by simp
  | a :: r, i + 1, h => by
    have ih := erase_perm (l := r) (i := i) (by simpa using h)
    show ((a :: r).getD (i + 1) 0 :: a :: r.eraseIdx i).Perm (a :: r)
    have e : (a :: r).getD (i + 1) 0 = r.getD i 0 := by simp
    rw [e]
    exact (List.Perm.swap a _ _).trans (ih.cons a)
theorem os_perm (c : Int) : ∀ j : Nat, j ≤ 4 → ((osAt c j).ord ++ (osAt c j).pool).Perm [0, 1, 2, 3]
  | 0, _ => List.Perm.refl _
  | j + 1, h => by
    have ih := os_perm c j (by omega)
    have h3 := (mod_nat (c := (osAt c j).c) (k := 4 - j) (by omega)).2
    have h1 := (os_len c j (by omega)).1
    have ep := erase_perm (l := (osAt c j).pool) (i := ((osAt c j).c % ((4 - j : Nat) : Int)).toNat) (by omega)
    show (((osAt c j).ord ++ [_]) ++ (osAt c j).pool.eraseIdx _).Perm _
    rw [List.append_assoc]
    exact (List.Perm.append_left _ ep).trans ih
theorem ord_perm (c : Int) : (ordL c).Perm [0, 1, 2, 3] := by
  have h := os_perm c 4 (Nat.le_refl 4)
  have e : (osAt c 4).pool = [] := List.length_eq_zero_iff.mp (os_len c 4 (Nat.le_refl 4)).1
  rw [e, List.append_nil] at h
  exact h
def args__law_order {K : PySem.W.Frag} {mg : Str → Option Value} (T : Tx K mg) : Int → List PV := fun a => [dv K (.int a)]
def dom__law_order : Int → Prop := fun _ => True
def out__law_order {K : PySem.W.Frag} {mg : Str → Option Value} (T : Tx K mg) : Int → Out := fun a => .ok (dv K (.list ((ordL a).map .int)))
def itI (K : PySem.W.Frag) (l : List Int) : List PV := (l.map PyData.int).map (dv K)
theorem ok__law_order {P : Program} {w : World} {K : PySem.W.Frag} {mg : Str → Option Value} {base : Heap} (T : Tx K mg) : FnOk P w K mg base (L2.CX P w) 1 T.a__law_order T.fd__law_order ["c"] (Prm K T.M (args__law_order T) dom__law_order (out__law_order T)) := by
  refine T.F__law_order.okX sc__law_order (fun vs H Q E h => by obtain ⟨a, F, _, al, _⟩ := h; exact al.length) (fun cdv A outer s H vs Q E hr h => ?_)
  have tk : Takes (cxOf (L2.CX P w) P w K mg base N__law_order "_law_order" (defScope s__law_order) T.a__law_order cdv A outer s H E) (fun cls d _ H => E cls d H) := takes_of rfl rfl rfl rfl
  obtain ⟨a, F, fh, al, hd, th⟩ := h
  refine ⟨_, (pss_cons (ps_set (i := 1) sc__law_order.nd rfl (by first | exact Or.inl rfl | exact Or.inr rfl) (pe_lst (pa_cons pe_int (pa_cons pe_int (pa_cons pe_int (pa_cons pe_int pa_nil))))))
      (pss_cons (ps_set (i := 2) sc__law_order.nd rfl (by first | exact Or.inl rfl | exact Or.inr rfl) (pe_lst pa_nil))
      (pss_cons (ps_for (passes_of rfl) rfl (pi_tup (pe_tup (pa_cons pe_int (pa_cons pe_int (pa_cons pe_int (pa_cons pe_int pa_nil)))))) (pg_name (i := 3) sc__law_order.nd rfl (by first | exact Or.inl rfl | exact Or.inr rfl)) (pss_cons (ps_expr (pe_bm PySem.F.plainAttrs_list PySem.F.slot_list_append PySem.F.type_list_append mt_append (pv 2) (pa_cons (pe_bm PySem.F.plainAttrs_list PySem.F.slot_list_pop PySem.F.type_list_pop mt_popAt (pv 1) (pa_cons (pe_op op_mod (pe_callTy call_int1 (by rfl) T.z_int PyProof.Rows.boot_int (pa_cons (pv 0) pa_nil)) (pv 3)) pa_nil)) pa_nil)))
      (pss_one (ps_set (i := 0) sc__law_order.nd rfl (by first | exact Or.inl rfl | exact Or.inr rfl) (pe_op op_fdiv (pv 0) (pv 3))))))
      (pss_one (ps_ret (pv 2)))))), ?_⟩
  refine fin_ok (r := .rt (dv K (.list ((ordL a).map .int)))) (js_own fun F1 H1 => jm_lst (M := T.M) (W := fun cls d _ H => E cls d H) (Ps := itI K [0, 1, 2, 3]) (ja_cons je_int (ja_cons je_int (ja_cons je_int (ja_cons je_int ja_nil)))) (show 4 ≤ 100000 by decide) fun D1 => jm_lst (M := T.M) (W := fun cls d _ H => E cls d H) (Ps := []) ja_nil (show 0 ≤ 100000 by decide) fun D2 => ?_) (by exact rfl) fh al th
  let f : Nat → Kn := fun j => [some (dv K (.int (osAt a j).c)), some (xv (.ref D1)), some (xv (.ref D2)), none]
  let l : Nat → Ow := fun j => [(D2, itI K (osAt a j).ord), (D1, itI K (osAt a j).pool)]
  refine jm_seq (qs := f 4) (Os1 := l 4) (jm_for (M := T.M) (W := fun cls d _ H => E cls d H) (vs := [3]) ((List.range 4).map fun j => PyData.int ((4 - j : Nat) : Int)) f l (ji_is (ji_tup (je_tup (ds := [.int 4, .int 3, .int 2, .int 1]) (ja_cons je_int (ja_cons je_int (ja_cons je_int (ja_cons je_int ja_nil)))))) rfl) rfl rfl fun j d hd => ?_) (jm_ret (i := 2) (j := 0) (D := D2) (ds := (ordL a).map .int) rfl rfl)
  have hj : j < 4 := by
    have := (List.getElem?_eq_some_iff.mp hd).1
    simpa using this
  rw [List.getElem?_map, List.getElem?_range hj] at hd
  cases hd
  obtain ⟨h1, h2⟩ := os_len a j (by omega)
  have hm := mod_nat (c := (osAt a j).c) (k := 4 - j) (by omega)
  refine ⟨_, jg_name, ?_⟩
  refine jm_weak (jm_seq (Os1 := l (j + 1)) (jm_is (jm_drop (jx_app (D := D2) (i := 0) (i0 := 0) (P := dv K (.int ((osAt a j).pool.getD ((osAt a j).c % ((4 - j : Nat) : Int)).toNat 0))) (jx_var (i := 2) rfl) rfl (jx_pop (D := D1) (i := 1) (i0 := 1) (j := ((osAt a j).c % ((4 - j : Nat) : Int)).toNat) (jx_var (i := 1) rfl) rfl (jx_int (M := T.M) (W := fun cls d _ H => E cls d H) (je_is (je_mod (je_intI (je_var (i := 0) rfl)) (je_var (i := 3) rfl) (by omega)) (congrArg PyData.int hm.1))) rfl (by unfold itI; rw [List.length_map, List.length_map, h1]; omega) ?_) rfl (by unfold itI; rw [List.length_map, List.length_map, h2]; omega))) ?_)
    (jm_js (M := T.M) (W := fun cls d _ H => E cls d H) (js_set (i := 0) (P := dv K (.int (osAt a (j + 1)).c)) (je_div (je_var (i := 0) rfl) (je_var (i := 3) rfl) ⟨by omega, by omega⟩)))) ⟨.inr rfl, .inr rfl, .inr rfl, .inl rfl, trivial⟩
  · unfold itI
    rw [List.map_map, List.getElem?_map, List.getD_eq_getElem?_getD, List.getElem?_eq_getElem (by omega)]
    rfl
  · show [_, _] = [_, _]
    congr 1
    · show (D2, itI K _ ++ [_]) = (D2, itI K ((osAt a j).ord ++ [_]))
      unfold itI
      rw [List.map_append, List.map_append]
      rfl
    · show [(D1, (itI K _).eraseIdx _)] = [(D1, itI K ((osAt a j).pool.eraseIdx _))]
      unfold itI
      rw [List.map_map, List.map_map]
      congr 2
      have er : ∀ (h : Int → PV) (l : List Int) (i : Nat), (l.map h).eraseIdx i = (l.eraseIdx i).map h := fun h l => by
        induction l with
        | nil => intro i; simp
        | cons x r ih =>
          intro i
          cases i with
          | zero => rfl
          | succ i =>
            show h x :: (r.map h).eraseIdx i = h x :: (r.eraseIdx i).map h
            rw [ih]
      exact er _ _ _
/-! ### fours, pairs, digits -/
theorem subs4_eq : ∀ n : Nat, n < 11 → subsL n 4 = (rg 0 n).flatMap fun a => (beh a n).flatMap fun b => (beh b n).flatMap fun c => (beh c n).map fun d => [a, b, c, d] := by decide +kernel
theorem subs4_len : ∀ n : Nat, n < 11 → (subsL n 4).length ≤ 210 := by decide +kernel
def args__law_fours {K : PySem.W.Frag} {mg : Str → Option Value} (T : Tx K mg) : Nat → List PV := fun a => [dv K (.int a)]
def dom__law_fours : Nat → Prop := fun a => a ≤ 10
def out__law_fours {K : PySem.W.Frag} {mg : Str → Option Value} (T : Tx K mg) : Nat → Out := fun a => .ok (dv K (.list ((subsL a 4).map tupI)))
theorem fours_nest {n : Nat} (h : n ≤ 10) : (subsL n 4).map tupI = (rg 0 n).flatMap fun a => (beh a n).flatMap fun b => (beh b n).flatMap fun c => (beh c n).map fun d => tupI [a, b, c, d] := by
  rw [subs4_eq _ (by omega), List.map_flatMap]
  congr 1
  funext a
  rw [List.map_flatMap]
  congr 1
  funext b
  rw [List.map_flatMap]
  congr 1
  funext c
  rw [List.map_map]
  rfl
theorem ok__law_fours {P : Program} {w : World} {K : PySem.W.Frag} {mg : Str → Option Value} {base : Heap} (T : Tx K mg) : FnOk P w K mg base (L2.CX P w) 1 T.a__law_fours T.fd__law_fours ["many"] (Prm K T.M (args__law_fours T) dom__law_fours (out__law_fours T)) := by
  refine T.F__law_fours.okX sc__law_fours (fun vs H Q E h => by obtain ⟨a, F, _, al, _⟩ := h; exact al.length) (fun cdv A outer s H vs Q E hr h => ?_)
  have tk : Takes (cxOf (L2.CX P w) P w K mg base N__law_fours "_law_fours" (defScope s__law_fours) T.a__law_fours cdv A outer s H E) (fun cls d _ H => E cls d H) := takes_of rfl rfl rfl rfl
  obtain ⟨a, F, fh, al, hd, th⟩ := h
  refine ⟨_, (pss_cons (ps_set (i := 1) sc__law_fours.nd rfl (by first | exact Or.inl rfl | exact Or.inr rfl) (pe_lst pa_nil))
      (pss_cons (ps_for (passes_of rfl) rfl (pi_range1 (by rfl) T.z_range (pa_cons (pv 0) pa_nil)) (pg_name (i := 2) sc__law_fours.nd rfl (by first | exact Or.inl rfl | exact Or.inr rfl)) (pss_one (ps_for (passes_of rfl) rfl (pi_range2 (by rfl) T.z_range (pa_cons (pe_op op_add (pv 2) pe_int) (pa_cons (pv 0) pa_nil))) (pg_name (i := 3) sc__law_fours.nd rfl (by first | exact Or.inl rfl | exact Or.inr rfl)) (pss_one (ps_for (passes_of rfl) rfl (pi_range2 (by rfl) T.z_range (pa_cons (pe_op op_add (pv 3) pe_int) (pa_cons (pv 0) pa_nil))) (pg_name (i := 4) sc__law_fours.nd rfl (by first | exact Or.inl rfl | exact Or.inr rfl)) (pss_one (ps_expr (pe_bm PySem.F.plainAttrs_list PySem.F.slot_list_extend PySem.F.type_list_extend mt_extend (pv 1) (pa_cons (pe_lc (own := [("d", 5)]) (g := (gName 5)) (tt := tYes) (te := (tTup (tCons (tVar 2) (tCons (tVar 3) (tCons (tVar 4) (tCons (tVar 5) tNil)))))) rfl sc__law_fours.nd (pi_range2 (by rfl) T.z_range (pa_cons (pe_op op_add (pv 4) pe_int) (pa_cons (pv 0) pa_nil))) (blkOk_by (N := N__law_fours) (sc := defScope s__law_fours) (own := [("d", 5)]) (by decide +kernel)) (fun _ _ _ _ _ => (pg_name (i := 5) sc__law_fours.nd rfl (by first | exact Or.inl rfl | exact Or.inr rfl))) (fun _ _ _ _ _ => by exact pts_nil) (fun _ _ _ _ _ => by exact (pe_tup (pa_cons (pv 2) (pa_cons (pv 3) (pa_cons (pv 4) (pa_cons (pv 5) pa_nil))))))) pa_nil)))))))))
      (pss_one (ps_ret (pv 1))))), ?_⟩
  have hl : a ≤ 10 := hd
  let W0 : WX := fun cls d _ H => E cls d H
  have ho : out__law_fours T a = .ok (dv K (.list ((subsL a 4).map tupI))) := rfl
  rw [ho] at th
  have hlen := subs4_len a (by omega)
  refine fin_ok (r := .rt (dv K (.list ((subsL a 4).map tupI)))) (jl_new fun D F1 H1 hD => ?_) (by exact rfl) fh al th
  refine jl_seq (qs := [some (dv K (.int a)), some (xv (.ref D)), none, none, none, none]) (es := (subsL a 4).map tupI) ?_ (jl_ret rfl hD)
  have hB : ((subsL a 4).map tupI).length ≤ 50000 := by rw [List.length_map]; omega
  rw [fours_nest hl] at hB ⊢
  refine jl_is (jl_grow (vs := [2]) 50000 (rg 0 a) .int (fun u => (beh u a).flatMap fun v => (beh v a).flatMap fun z => (beh z a).map fun d => tupI [u, v, z, d]) (ji_upto (je_var (i := 0) rfl) (by omega)) (fun u hu es hes => ⟨_, jg_name, ?_⟩) (by rw [List.length_nil]; omega)) (List.nil_append _)
  have hu2 := rg_mem hu
  refine jl_weak (jl_grow (vs := [3]) 50000 (beh u a) .int (fun v => (beh v a).flatMap fun z => (beh z a).map fun d => tupI [u, v, z, d]) (ji_rng2 (lo := u + 1) (n := a) (ja_cons (je_add (je_var (i := 2) rfl) je_int) (ja_cons (je_var (i := 0) rfl) ja_nil)) ⟨by omega, by omega, by omega, by omega⟩) (fun v hv es2 hes2 => ⟨_, jg_name, ?_⟩) hes) ⟨.inr rfl, .inr rfl, .inl rfl, .inr rfl, .inr rfl, .inr rfl, trivial⟩
  have hv2 := rg_mem hv
  refine jl_weak (jl_grow (vs := [4]) 50000 (beh v a) .int (fun z => (beh z a).map fun d => tupI [u, v, z, d]) (ji_rng2 (lo := v + 1) (n := a) (ja_cons (je_add (je_var (i := 3) rfl) je_int) (ja_cons (je_var (i := 0) rfl) ja_nil)) ⟨by omega, by omega, by omega, by omega⟩) (fun z hz es3 hes3 => ⟨_, jg_name, ?_⟩) hes2) ⟨.inr rfl, .inr rfl, .inr rfl, .inl rfl, .inr rfl, .inr rfl, trivial⟩
  have hz2 := rg_mem hz
  have ef : ((beh z a).filter fun _ => true).map (fun d => tupI [u, v, z, d]) = (beh z a).map fun d => tupI [u, v, z, d] := by
    rw [List.filter_eq_self.mpr fun _ _ => rfl]
  refine jl_weak (jl_ext (i := 1) (es := (beh z a).map fun d => tupI [u, v, z, d]) rfl hD (jn_lv (jn_is (jn_lc (M := T.M) (W := W0) (W' := fun _ _ _ _ => False) (vs := [5]) (beh z a) .int (fun _ => true) (fun d => tupI [u, v, z, d]) (ji_rng2 (lo := z + 1) (n := a) (ja_cons (je_add (je_var (i := 4) rfl) je_int) (ja_cons (je_var (i := 0) rfl) ja_nil)) ⟨by omega, by omega, by omega, by omega⟩) (by rw [rg_length]; omega) fun d hd => ⟨_, jg_name, jt_yes, fun _ => je_tup (ds := [.int u, .int v, .int z, .int d]) (ja_cons (je_var (i := 2) rfl) (ja_cons (je_var (i := 3) rfl) (ja_cons (je_var (i := 4) rfl) (ja_cons (je_var (i := 5) rfl) ja_nil))))⟩) ef)) (by omega)) ⟨.inr rfl, .inr rfl, .inr rfl, .inr rfl, .inl rfl, .inr rfl, trivial⟩
def pairsI (pts : List Pt) : List (List Int × Int) := (subsL pts.length 4).flatMap fun l => match inn pts l with
  | some k => [(rmI l k, k)]
  | none => []
def args__law_pairs {K : PySem.W.Frag} {mg : Str → Option Value} (T : Tx K mg) : List Pt → List PV := fun a => [dv K (.list (a.map pD))]
def dom__law_pairs : List Pt → Prop := dom_inner_pairs
def out__law_pairs {K : PySem.W.Frag} {mg : Str → Option Value} (T : Tx K mg) : List Pt → Out := fun a => .ok (dv K (.list ((pairsI a).map encP)))
theorem pairs_flat (pts : List Pt) : (pairsI pts).map encP = (subsL pts.length 4).flatMap fun l => match inn pts l with
  | some k => [encP (rmI l k, k)]
  | none => [] := by
  unfold pairsI
  rw [List.map_flatMap]
  congr 1
  funext l
  cases inn pts l <;> rfl
theorem pairs_len {pts : List Pt} (h : pts.length ≤ 10) : (pairsI pts).length ≤ 210 := by
  have h1 := flatMap_le (fun l => match inn pts l with
    | some k => [(rmI l k, k)]
    | none => []) 1 (subsL pts.length 4) fun l _ => by
    cases inn pts l <;> simp
  have h2 := subs4_len pts.length (by omega)
  unfold pairsI
  omega
theorem subs4_ok : ∀ n : Nat, n < 11 → (subsL n 4).all (fun l => decide (l.length = 4) && decide l.Nodup && decide (l.Pairwise (· < ·)) && l.all fun x => isNo x n) = true := by decide +kernel
theorem subs4_four {n : Nat} (h : n ≤ 10) {l : List Int} (hl : l ∈ subsL n 4) : Four n l ∧ l.Pairwise (· < ·) := by
  have := List.all_eq_true.mp (subs4_ok n (by omega)) l hl
  simp only [Bool.and_eq_true, decide_eq_true_eq, List.all_eq_true] at this
  obtain ⟨⟨⟨h1, h2⟩, h3⟩, h4⟩ := this
  exact ⟨⟨h1, h2, h4⟩, h3⟩
theorem ok__law_pairs {P : Program} {w : World} {K : PySem.W.Frag} {mg : Str → Option Value} {base : Heap} (T : Tx K mg) : FnOk P w K mg base (L2.CX P w) 4 T.a__law_pairs T.fd__law_pairs ["points"] (Prm K T.M (args__law_pairs T) dom__law_pairs (out__law_pairs T)) := by
  refine T.F__law_pairs.okX sc__law_pairs (fun vs H Q E h => by obtain ⟨a, F, _, al, _⟩ := h; exact al.length) (fun cdv A outer s H vs Q E hr h => ?_)
  have tk : Takes (cxOf (L2.CX P w) P w K mg base N__law_pairs "_law_pairs" (defScope s__law_pairs) T.a__law_pairs cdv A outer s H E) (fun cls d _ H => E cls d H) := takes_of rfl rfl rfl rfl
  obtain ⟨a, F, fh, al, hd, th⟩ := h
  refine ⟨_, (pss_cons (ps_set (i := 1) sc__law_pairs.nd rfl (by first | exact Or.inl rfl | exact Or.inr rfl) (pe_lst pa_nil))
      (pss_cons (ps_for (passes_of rfl) rfl (pi_list (pe_callS (ok__law_fours T) (hr.mono (by decide)) (by rfl) T.g__law_fours T.F__law_fours.kp (b__law_fours T) (fun σ => passAt tk σ) (pa_cons (pe_callB call_len_seq (by rfl) T.z_len PySem.boot_len (pa_cons (pv 0) pa_nil)) pa_nil))) (pg_name (i := 2) sc__law_pairs.nd rfl (by first | exact Or.inl rfl | exact Or.inr rfl)) (pss_cons (ps_set (i := 3) sc__law_pairs.nd rfl (by first | exact Or.inl rfl | exact Or.inr rfl) (pe_callS (ok__law_inner T) (hr.mono (by decide)) (by rfl) T.g__law_inner T.F__law_inner.kp (b__law_inner T) (fun σ => passAt tk σ) (pa_cons (pv 0) (pa_cons (pv 2) pa_nil))))
      (pss_one (ps_if (pt_cmpR op_notN1 (pv 3) pe_non (nomark _)) (pss_cons (ps_setLc (i := 4) (own := [("k", 5)]) (g := (gName 5)) (tt := (tTest (tOp rNe (tVar 5) (tVar 3)))) (te := (tVar 5)) rfl sc__law_pairs.nd rfl rfl (sw_true rfl rfl rfl (by decide +kernel)) (pi_tup (pv 2)) (blkOk_by (N := N__law_pairs) (sc := defScope s__law_pairs) (own := [("k", 5)]) (by decide +kernel)) (fun _ _ _ _ _ => (pg_name (i := 5) sc__law_pairs.nd rfl (by first | exact Or.inl rfl | exact Or.inr rfl))) (fun _ _ _ _ _ => by exact pts_one (pt_cmpR op_ne (pv 5) (pv 3) (nomark _))) (fun _ _ _ _ _ => by exact (pv 5)))
      (pss_one (ps_expr (pe_bm PySem.F.plainAttrs_list PySem.F.slot_list_append PySem.F.type_list_append mt_append (pv 1) (pa_cons (pe_tup (pa_cons (pe_callTy call_tuple_of (by rfl) T.z_tuple PyProof.Rows.boot_tuple (pa_cons (pv 4) pa_nil)) (pa_cons (pv 3) pa_nil))) pa_nil))))) pss_nil))))
      (pss_one (ps_ret (pv 1))))), ?_⟩
  obtain ⟨hl, hn⟩ := hd
  let W0 : WX := fun cls d _ H => E cls d H
  have ho : out__law_pairs T a = .ok (dv K (.list ((pairsI a).map encP))) := rfl
  rw [ho] at th
  have hlen := pairs_len hl
  refine fin_ok (r := .rt (dv K (.list ((pairsI a).map encP)))) (jl_new fun D F1 H1 hD => ?_) (by exact rfl) fh al th
  refine jl_seq (qs := [some (dv K (.list (a.map pD))), some (xv (.ref D)), none, none, none, none]) (es := (pairsI a).map encP) ?_ (jl_ret rfl hD)
  have hB : ((pairsI a).map encP).length ≤ 50000 := by rw [List.length_map]; omega
  rw [pairs_flat] at hB ⊢
  refine jl_is (jl_grow (vs := [2]) 50000 (subsL a.length 4) tupI (fun l => match inn a l with
    | some k => [encP (rmI l k, k)]
    | none => []) (ji_list (je_call (args := args__law_fours T) (dom := dom__law_fours) (out := out__law_fours T) a.length (ja_cons (je_is (je_lenL (je_var (i := 0) rfl)) (by rw [List.length_map])) ja_nil) hl)) (fun l hm es hes => ⟨_, jg_name, ?_⟩) (by rw [List.length_nil]; omega)) (List.nil_append _)
  have h4 := (subs4_four hl hm).1
  have s1 := jl_js (K := K) (D := D) (F1 := F1) (H1 := H1) (ds := es) (js_set (M := T.M) (W := W0) (i := 3) (ps := [some (dv K (.list (a.map pD))), some (xv (.ref D)), some (dv K (tupI l)), none, none, none]) (je_call (M := T.M) (W := W0) (args := args__law_inner T) (dom := dom__law_inner) (out := out__law_inner T) (a, false, l) (ja_cons (je_var (i := 0) rfl) (ja_cons (je_var (i := 2) rfl) ja_nil)) ⟨hn, h4⟩))
  have ho3 : out__law_inner T (a, false, l) = .ok (dv K (optI (inn a l))) := rfl
  cases hi : inn a l with
  | none =>
    rw [hi] at hes
    refine jl_weak (jl_is (jl_seq s1 (jl_if (b := false) (jt_test (je_notNone (je_var (i := 3) rfl) (.inr ⟨by show optI (inn a l) = _; rw [hi]; rfl, rfl⟩))) (fun z => Bool.noConfusion z) (fun _ => jl_js js_next))) (by simp)) ⟨.inr rfl, .inr rfl, .inl rfl, .inl rfl, .inr rfl, .inr rfl, trivial⟩
  | some k =>
    rw [hi] at hes
    simp only [List.length_cons, List.length_nil] at hes
    have e3 : ∀ ps : Kn, ps[3]? = some (some (dv K (optI (inn a l)))) → JD K T.M W0 (tVar 3) ps (.int k) := fun ps h => je_is (je_var (i := 3) h) (by rw [hi]; rfl)
    refine jl_weak (jl_seq s1 (jl_if (b := true) (jt_test (je_notNone (je_var (i := 3) rfl) (.inl ⟨by show optI (inn a l) ≠ _; rw [hi]; exact (fun z => by cases z), rfl⟩))) (fun _ => jl_seq (jl_js (js_set (i := 4) (P := dv K (.list ((rmI l k).map .int))) (je_lc (vs := [5]) (W' := fun _ _ _ _ => False) l .int (fun m => decide (m ≠ k)) .int (ji_tup (je_var (i := 2) rfl)) (by rw [h4.1]; decide) fun m hm2 => ⟨_, jg_name, jt_test (je_neI2 (je_var (i := 5) rfl) (e3 _ rfl)), fun _ => je_var (i := 5) rfl⟩)))
      (jl_app (i := 1) (d := encP (rmI l k, k)) rfl hD (ja_cons (je_tup (ds := [tupI (rmI l k), .int k]) (ja_cons (je_tupL (je_var (i := 4) rfl)) (ja_cons (e3 _ rfl) ja_nil))) ja_nil) (by omega))) (fun z => Bool.noConfusion z))) ⟨.inr rfl, .inr rfl, .inl rfl, .inl rfl, .inl rfl, .inr rfl, trivial⟩
def dgC (c b : Int) : Nat → Int
  | 0 => c
  | k + 1 => dgC c b k / b
def dgL (c b : Int) : List Int := (List.range 4).map fun j => dgC c b j % b
def args__law_digits {K : PySem.W.Frag} {mg : Str → Option Value} (T : Tx K mg) : Int × Int → List PV := fun a => [dv K (.int a.1), dv K (.int a.2), dv K (.int 4)]
def dom__law_digits : Int × Int → Prop := fun a => 1 ≤ a.2 ∧ a.2 ≤ 100
def out__law_digits {K : PySem.W.Frag} {mg : Str → Option Value} (T : Tx K mg) : Int × Int → Out := fun a => .ok (dv K (.list ((dgL a.1 a.2).map .int)))
theorem ok__law_digits {P : Program} {w : World} {K : PySem.W.Frag} {mg : Str → Option Value} {base : Heap} (T : Tx K mg) : FnOk P w K mg base (L2.CX P w) 1 T.a__law_digits T.fd__law_digits ["c", "base", "many"] (Prm K T.M (args__law_digits T) dom__law_digits (out__law_digits T)) := by
  refine T.F__law_digits.okX sc__law_digits (fun vs H Q E h => by obtain ⟨a, F, _, al, _⟩ := h; exact al.length) (fun cdv A outer s H vs Q E hr h => ?_)
  have tk : Takes (cxOf (L2.CX P w) P w K mg base N__law_digits "_law_digits" (defScope s__law_digits) T.a__law_digits cdv A outer s H E) (fun cls d _ H => E cls d H) := takes_of rfl rfl rfl rfl
  obtain ⟨a, F, fh, al, hd, th⟩ := h
  refine ⟨_, (pss_cons (ps_set (i := 3) sc__law_digits.nd rfl (by first | exact Or.inl rfl | exact Or.inr rfl) (pe_lst pa_nil))
      (pss_cons (ps_for (passes_of rfl) rfl (pi_range1 (by rfl) T.z_range (pa_cons (pv 2) pa_nil)) (pg_name (i := 4) sc__law_digits.nd rfl (by first | exact Or.inl rfl | exact Or.inr rfl)) (pss_cons (ps_expr (pe_bm PySem.F.plainAttrs_list PySem.F.slot_list_append PySem.F.type_list_append mt_append (pv 3) (pa_cons (pe_op op_mod (pe_callTy call_int1 (by rfl) T.z_int PyProof.Rows.boot_int (pa_cons (pv 0) pa_nil)) (pv 1)) pa_nil)))
      (pss_one (ps_set (i := 0) sc__law_digits.nd rfl (by first | exact Or.inl rfl | exact Or.inr rfl) (pe_op op_fdiv (pv 0) (pv 1))))))
      (pss_one (ps_ret (pv 3))))), ?_⟩
  obtain ⟨c, b⟩ := a
  obtain ⟨h1, h2⟩ := hd
  simp only at h1 h2
  let W0 : WX := fun cls d _ H => E cls d H
  have ho : out__law_digits T (c, b) = .ok (dv K (.list ((dgL c b).map .int))) := rfl
  rw [ho] at th
  refine fin_ok (r := .rt (dv K (.list ((dgL c b).map .int)))) (jl_new fun D F1 H1 hD => ?_) (by exact rfl) fh al th
  let f : Nat → Kn := fun j => [some (dv K (.int (dgC c b j))), some (dv K (.int b)), some (dv K (.int 4)), some (xv (.ref D)), none]
  let l : Nat → List PyData := fun j => ((List.range j).map fun j => dgC c b j % b).map .int
  refine jl_seq (qs := f 4) (es := l 4) (jl_for (M := T.M) (W := W0) (vs := [4]) ((rg 0 4).map .int) f l (ji_upto (n := 4) (je_var (i := 2) rfl) (by decide)) rfl rfl fun j d hj => ?_) (jl_ret rfl hD)
  have hj4 : j < 4 := by
    have := (List.getElem?_eq_some_iff.mp hj).1
    rw [List.length_map, rg_length] at this
    exact this
  refine ⟨_, jg_name, jl_weak (jl_is (jl_seq (jl_app (i := 3) (d := .int (dgC c b j % b)) rfl hD (ja_cons (je_mod (je_intI (je_var (i := 0) rfl)) (je_var (i := 1) rfl) (by omega)) ja_nil) (by simp [l]; omega)) (jl_js (js_set (i := 0) (P := dv K (.int (dgC c b (j + 1)))) (je_div (je_var (i := 0) rfl) (je_var (i := 1) rfl) ⟨by omega, by omega⟩)))) ?_) ⟨.inr rfl, .inr rfl, .inr rfl, .inr rfl, .inl rfl, trivial⟩⟩
  show _ = ((List.range (j + 1)).map fun j => dgC c b j % b).map PyData.int
  rw [List.range_succ, List.map_append, List.map_append]
  rfl
end K11

namespace K11
open PySem PySem.Spec PyProof.Rows L2 Evl EB PySem.W
/-! ### the two parts in order -/
structure Spl (pts : List Pt) (l : List Int) : Prop where
  ex : ∃ p r1 q r2, spl pts l = (p :: r1, q :: r2) ∧ p < q ∧ [prt pts l, rst l (prt pts l)].Perm [p :: r1, q :: r2] ∧ (∀ x ∈ p :: r1, x ∈ l) ∧ (∀ x ∈ q :: r2, x ∈ l) ∧ r1.length ≤ 3 ∧ r2.length ≤ 3
theorem spl_of {pts : List Pt} {a b c d : Int} (h : D4 pts a b c d) (l1 : a < b) (l2 : b < c) (l3 : c < d) : Spl pts [a, b, c, d] := by
  have key : ∀ P : List Int, (P = [a] ∨ P = [b] ∨ P = [c] ∨ P = [d] ∨ P = [a, b] ∨ P = [a, c] ∨ P = [a, d]) → ∃ p r1 q r2, (if P.contains a = true then (P, rst [a, b, c, d] P) else (rst [a, b, c, d] P, P)) = (p :: r1, q :: r2) ∧ p < q ∧ [P, rst [a, b, c, d] P].Perm [p :: r1, q :: r2] ∧ (∀ x ∈ p :: r1, x ∈ [a, b, c, d]) ∧ (∀ x ∈ q :: r2, x ∈ [a, b, c, d]) ∧ r1.length ≤ 3 ∧ r2.length ≤ 3 := by
    have n1 := h.ab
    have n2 := h.ac
    have n3 := h.ad
    have n4 := h.bc
    have n5 := h.bd
    have n6 := h.cd
    have m1 := Ne.symm n1
    have m2 := Ne.symm n2
    have m3 := Ne.symm n3
    have m4 := Ne.symm n4
    have m5 := Ne.symm n5
    have m6 := Ne.symm n6
    intro P hP
    rcases hP with rfl | rfl | rfl | rfl | rfl | rfl | rfl
    · refine ⟨a, [], b, [c, d], by simp [rst, n1, n2, n3, m1, m2, m3], by omega, ?_, by simp, by simp, by simp, by simp⟩
      simp [rst, n1, n2, n3, m1, m2, m3]
    · refine ⟨a, [c, d], b, [], by simp [rst, n1, n4, n5, m1, m4, m5], by omega, ?_, by simp, by simp, by simp, by simp⟩
      simp only [rst, List.contains_cons, List.contains_nil]
      simp [n1, n4, n5, m1, m4, m5]
      exact List.Perm.swap _ _ _
    · refine ⟨a, [b, d], c, [], by simp [rst, n2, n4, n6, m2, m4, m6], by omega, ?_, by simp, by simp, by simp, by simp⟩
      simp only [rst, List.contains_cons, List.contains_nil]
      simp [n2, n4, n6, m2, m4, m6]
      exact List.Perm.swap _ _ _
    · refine ⟨a, [b, c], d, [], by simp [rst, n3, n5, n6, m3, m5, m6], by omega, ?_, by simp, by simp, by simp, by simp⟩
      simp only [rst, List.contains_cons, List.contains_nil]
      simp [n3, n5, n6, m3, m5, m6]
      exact List.Perm.swap _ _ _
    · refine ⟨a, [b], c, [d], by simp [rst, n1, n2, n3, n4, n5, m1, m2, m3, m4, m5], by omega, ?_, by simp, by simp, by simp, by simp⟩
      simp [rst, n1, n2, n3, n4, n5, m1, m2, m3, m4, m5]
    · refine ⟨a, [c], b, [d], by simp [rst, n1, n2, n3, n4, n6, m1, m2, m3, m4, m6], by omega, ?_, by simp, by simp, by simp, by simp⟩
      simp [rst, n1, n2, n3, n4, n6, m1, m2, m3, m4, m6]
    · refine ⟨a, [d], b, [c], by simp [rst, n1, n2, n3, n5, n6, m1, m2, m3, m5, m6], by omega, ?_, by simp, by simp, by simp, by simp⟩
      simp [rst, n1, n2, n3, n5, n6, m1, m2, m3, m5, m6]
  refine ⟨key (prt pts [a, b, c, d]) ?_⟩
  unfold prt
  dsimp only
  cases hi : inn pts [a, b, c, d] with
  | some k =>
    have := List.mem_of_find?_eq_some hi
    simp only [List.mem_cons, List.not_mem_nil, or_false] at this
    rcases this with rfl | rfl | rfl | rfl <;> simp
  | none =>
    dsimp only
    unfold diag
    split
    · simp
    · split <;> simp
/-! ### dues, told -/
def tldD (d : PyData) : PyData := .tuple [.str "told", .str d.shown, .int 0, .bool true]
def toldV (t : Bool) (pts : List Pt) (ns : List Int) : PyData := if t = true then optI (inn pts (srt ns)) else encS (spl pts (srt ns))
def answ (t : Bool) (pts : List Pt) (ns : List Int) : PyData := orE (badNos pts.length ns) (tldD (toldV t pts ns))
def args__law_dues {K : PySem.W.Frag} {mg : Str → Option Value} (T : Tx K mg) : List Pt × Int × Int × Int × Int → List PV := fun a => [dv K (.list (a.1.map pD)), dv K (tupI (l4 a))]
def dom__law_dues : List Pt × Int × Int × Int × Int → Prop := dom_split
def out__law_dues {K : PySem.W.Frag} {mg : Str → Option Value} (T : Tx K mg) : List Pt × Int × Int × Int × Int → Out := fun a => .ok (dv K (.list [answ true a.1 (l4 a), answ false a.1 (l4 a)]))
theorem sb_optI {pts : List Pt} {l : List Int} (hl : pts.length ≤ 10) (hr : ∀ x ∈ l, inR2 pts x) : Sb (optI (inn pts l)) 1 66 := by
  cases hi : inn pts l with
  | none => exact sb_non
  | some k =>
    have := hr k (List.mem_of_find?_eq_some hi)
    unfold inR2 at this
    exact sb_int ⟨by omega, by omega⟩
theorem sb_tupI {pts : List Pt} {l : List Int} (hl : pts.length ≤ 10) (hr : ∀ x ∈ l, inR2 pts x) (h4 : l.length ≤ 4) : Sb (tupI l) 2 268 := by
  have := sb_tup (n := 1) (w := 66) (ds := l.map .int) fun d hd => by
    obtain ⟨x, hx, rfl⟩ := List.mem_map.mp hd
    have := hr x hx
    unfold inR2 at this
    exact sb_int ⟨by omega, by omega⟩
  refine Sb.up this (Nat.le_refl _) ?_
  rw [List.length_map]
  omega
theorem badNos_c {n : Int} {ns : List Int} {e : Er} (h : badNos n ns = some e) : e.c = .NoPoint ∨ e.c = .Repeated := by
  obtain ⟨k, _, hk⟩ := List.exists_of_findSome?_eq_some h
  unfold badNo at hk
  cases hg : ns[k]? with
  | none => rw [hg] at hk; cases hk
  | some i =>
    rw [hg] at hk
    dsimp only at hk
    cases h1 : isNo i n with
    | false =>
      rw [h1] at hk
      cases hk
      exact .inl rfl
    | true =>
      rw [h1] at hk
      dsimp only at hk
      cases h2 : (ns.take k).contains i with
      | true =>
        rw [h2] at hk
        cases hk
        exact .inr rfl
      | false => rw [h2] at hk; cases hk
/-- the loop of dues -/
theorem dues_loop {K : PySem.W.Frag} {M : EC → Addr} {W : WX} {pts : List Pt} {u v z y : Int} :
    JS K M W (tFor (iRng1 (tCons (tC (.int 4)) tNil)) (gName 2)
      (tSeq (tIfS (tOr (tTest (tOp (rI0 fun i j => .bl (decide (i < j))) (tOp (rIxT K) (tVar 1) (tVar 2)) (tC (.int 0)))) (tTest (tOp (rI0 fun i j => .bl (decide (j ≤ i))) (tOp (rIxT K) (tVar 1) (tVar 2)) (tCB (rLenS K) (tCons (tVar 0) tNil)))))
          (tRet (tOp rRep (tLst (tCons (tTup (tCons (tC (.str "raised")) (tCons (tC (.str "NoPoint")) (tCons (tOp (rIxT K) (tVar 1) (tVar 2)) (tCons (tC (.bl true)) tNil))))) tNil)) (tC (.int 2)))) tNext)
        (tIfS (tTest (tOp (rIn K false) (tOp (rIxT K) (tVar 1) (tVar 2)) (tSl (rSlT K) (tVar 1) tNoPart (tPart (tVar 2)))))
          (tRet (tOp rRep (tLst (tCons (tTup (tCons (tC (.str "raised")) (tCons (tC (.str "Repeated")) (tCons (tOp (rIxT K) (tVar 1) (tVar 2)) (tCons (tC (.bl true)) tNil))))) tNil)) (tC (.int 2)))) tNext)))
      [some (dv K (.list (pts.map pD))), some (dv K (tupI [u, v, z, y])), none, none, none, none, none]
      (ends [some (dv K (.list (pts.map pD))), some (dv K (tupI [u, v, z, y])), none, none, none, none, none] ((badNos pts.length [u, v, z, y]).map fun e => Out.ok (dv K (.list [raisedD e, raisedD e])))) := by
  unfold badNos
  rw [← first_map]
  refine js_search (vs := [2]) (ds := (rg 0 4).map .int) (fun k => (badNo pts.length [u, v, z, y] k).map fun e => Out.ok (dv K (.list [raisedD e, raisedD e]))) (ji_rng1 (n := 4) (ja_cons je_int ja_nil) ⟨by decide, by decide⟩) fun i d hi => ?_
  have hl : i < 4 := by
    have := (List.getElem?_eq_some_iff.mp hi).1
    rw [List.length_map, rg_length] at this
    exact this
  have e0 : ((rg 0 4).map PyData.int)[i]? = some (.int (i : Nat)) := by
    rw [List.getElem?_map, rg_get hl]
    simp
  rw [e0] at hi
  cases hi
  refine ⟨_, jg_name, .inl ?_⟩
  have hg : [u, v, z, y][i]? = some ([u, v, z, y][i]'hl) := List.getElem?_eq_getElem hl
  generalize hx : [u, v, z, y][i]'hl = x at hg
  let psk : Kn := [some (dv K (.list (pts.map pD))), some (dv K (tupI [u, v, z, y])), some (dv K (.int (i : Nat))), none, none, none, none]
  have pv : JD K M W (tOp (rIxT K) (tVar 1) (tVar 2)) psk (.int x) := je_ixT (ds := [u, v, z, y].map .int) (je_var (i := 1) rfl) (je_var (i := 2) rfl) (atI_nat (by rw [List.getElem?_map, hg] <;> rfl))
  have hn : JT K M W (tOr (tTest (tOp (rI0 fun i j => .bl (decide (i < j))) (tOp (rIxT K) (tVar 1) (tVar 2)) (tC (.int 0)))) (tTest (tOp (rI0 fun i j => .bl (decide (j ≤ i))) (tOp (rIxT K) (tVar 1) (tVar 2)) (tCB (rLenS K) (tCons (tVar 0) tNil))))) psk (!isNo x pts.length) :=
    jt_is (jt_or (jt_test (je_lt pv je_int)) (fun _ => jt_test (je_ge pv (je_lenL (je_var (i := 0) rfl))))) (by rw [List.length_map]; exact isNo_not _ _)
  have rep : ∀ (c : EC), c = .NoPoint ∨ c = .Repeated → JD K M W (tOp rRep (tLst (tCons (tTup (tCons (tC (.str "raised")) (tCons (tC (.str (nmE c))) (tCons (tOp (rIxT K) (tVar 1) (tVar 2)) (tCons (tC (.bl true)) tNil))))) tNil)) (tC (.int 2))) psk (.list [raisedD ⟨c, .int x⟩, raisedD ⟨c, .int x⟩]) := fun c hc => jn_told (jn_is (jn_rep (ds := [raisedD ⟨c, .int x⟩]) (k := 2) (je_lstV (ds := [raisedD ⟨c, .int x⟩]) (ja_cons (je_tup (ds := [.str "raised", .str (nmE c), .int x, .bool true]) (ja_cons je_str (ja_cons je_str (ja_cons pv (ja_cons je_bl ja_nil))))) ja_nil)) je_int (show 1 * 2 ≤ 100000 by decide) (by decide)) rfl)
  unfold badNo
  rw [hg]
  dsimp only
  cases h1 : isNo x pts.length with
  | false =>
    rw [h1] at hn
    exact js_rt (js_if hn (fun _ => js_ret (rep .NoPoint (.inl rfl))) (fun q => Bool.noConfusion q))
  | true =>
    rw [h1] at hn
    have hin := je_inT pv (ns := [u, v, z, y].take i) (je_is (je_slT (ds := [u, v, z, y].map .int) (je_var (i := 1) rfl) jo_none (jo_some (je_var (i := 2) rfl)) (by rw [HT.sIx_nat, List.length_map]; show ¬ (_ ∧ min i 4 = 4); omega)) (by rw [cutD_map]))
    dsimp only
    refine js_seq (js_if hn (fun q => Bool.noConfusion q) (fun _ => js_next)) ?_
    cases h2 : ([u, v, z, y].take i).contains x with
    | true =>
      rw [h2] at hin
      exact js_if (jt_test hin) (fun _ => js_ret (rep .Repeated (.inr rfl))) (fun q => Bool.noConfusion q)
    | false =>
      rw [h2] at hin
      exact js_if (jt_test hin) (fun q => Bool.noConfusion q) (fun _ => js_weak js_next ⟨.inr rfl, .inr rfl, .inl rfl, .inr rfl, .inr rfl, .inr rfl, .inr rfl, trivial⟩)
end K11

namespace K11
open PySem PySem.Spec PyProof.Rows L2 Evl EB PySem.W
theorem rst_one (l : List Int) (k : Int) : rst l [k] = rmI l k := by
  unfold rst rmI
  refine List.filter_congr fun m _ => ?_
  by_cases h : m = k
  · subst h
    simp
  · simp [h]
theorem dpa_eq {pts : List Pt} {a b c d : Int} (h : D4 pts a b c d) : dpa pts a b c d = [diag pts a b c d, rst [a, b, c, d] (diag pts a b c d)] := by
  have n1 := h.ab
  have n2 := h.ac
  have n3 := h.ad
  have n4 := h.bc
  have n5 := h.bd
  have n6 := h.cd
  have m1 := Ne.symm n1
  have m2 := Ne.symm n2
  have m3 := Ne.symm n3
  have m4 := Ne.symm n4
  have m5 := Ne.symm n5
  have m6 := Ne.symm n6
  unfold dpa diag
  split
  · simp [rst, n1, n2, n3, n4, n5, m1, m2, m3, m4, m5]
  · split
    · simp [rst, n1, n2, n3, n4, n6, m1, m2, m3, m4, m6]
    · simp [rst, n1, n2, n3, n5, n6, m1, m2, m3, m5, m6]
theorem prt_none {pts : List Pt} {a b c d : Int} (h : inn pts [a, b, c, d] = none) : prt pts [a, b, c, d] = diag pts a b c d := by
  show (match inn pts [a, b, c, d] with
    | some k => [k]
    | none => diag pts a b c d) = _
  rw [h]
theorem prt_some {pts : List Pt} {a b c d k : Int} (h : inn pts [a, b, c, d] = some k) : prt pts [a, b, c, d] = [k] := by
  show (match inn pts [a, b, c, d] with
    | some k => [k]
    | none => diag pts a b c d) = _
  rw [h]
/-- sorted(parts), parts the two parts in any order -/
theorem je_parts {K : PySem.W.Frag} {M : EC → Addr} {W : WX} {ps : Kn} {te : TE} {A B : List Int} {p q : Int} {r1 r2 : List Int} (h : JD K M W te ps (.list ([A, B].map tupI))) (pm : [A, B].Perm [p :: r1, q :: r2]) (lt : p < q) : JD K M W (tCB (rSortedD K) (tCons te tNil)) ps (.list ([p :: r1, q :: r2].map tupI)) := by
  have ne : ∀ x ∈ [A, B], ∃ y r, x = y :: r := fun x hx => by
    have := pm.mem_iff.mp hx
    simp only [List.mem_cons, List.not_mem_nil, or_false] at this
    rcases this with rfl | rfl
    · exact ⟨_, _, rfl⟩
    · exact ⟨_, _, rfl⟩
  refine je_sortD h (pm.map _) ?_ (alike_tupI _) ?_ (fun d hd => ?_)
  · refine List.pairwise_map.mpr (List.pairwise_cons.mpr ⟨fun x hx => ?_, List.pairwise_cons.mpr ⟨(fun x hx => by cases hx), List.Pairwise.nil⟩⟩)
    simp only [List.mem_cons, List.not_mem_nil, or_false] at hx
    subst hx
    refine (dLt_tupI _ _).trans (decide_eq_true ?_)
    exact List.cons_lt_cons_iff.mpr (.inl lt)
  · refine .inl fun d hd => ?_
    obtain ⟨x, hx, rfl⟩ := List.mem_map.mp hd
    obtain ⟨y, r, rfl⟩ := ne x hx
    exact ⟨.int y, r.map .int, rfl⟩
  · obtain ⟨x, _, rfl⟩ := List.mem_map.mp hd
    exact depth_tupI x
theorem sb_encS {pts : List Pt} {a b : List Int} (hl : pts.length ≤ 10) (h1 : ∀ x ∈ a, inR2 pts x) (h2 : ∀ x ∈ b, inR2 pts x) (l1 : a.length ≤ 4) (l2 : b.length ≤ 4) : Sb (encS (a, b)) 3 538 := sb_tup (n := 2) (w := 268) (ds := [tupI a, tupI b]) fun d hd => by
  simp only [List.mem_cons, List.not_mem_nil, or_false] at hd
  rcases hd with rfl | rfl
  · exact sb_tupI hl h1 l1
  · exact sb_tupI hl h2 l2
theorem ok__law_dues {P : Program} {w : World} {K : PySem.W.Frag} {mg : Str → Option Value} {base : Heap} (T : Tx K mg) : FnG P w K mg base (L2.CX P w) 4 T.a__law_dues T.fd__law_dues ["points", "numbers"] (Prm K T.M (args__law_dues T) dom__law_dues (out__law_dues T)) := by
  refine okG T.F__law_dues sc__law_dues (fun vs H Q E h => by obtain ⟨a, F, _, al, _⟩ := h; exact al.length) (fun cdv A outer s H vs Q E hr h => ?_)
  have tk : Takes (cxOf (L2.CX P w) P w K mg base N__law_dues "_law_dues" (defScope s__law_dues) T.a__law_dues cdv A outer s H E) (fun cls d _ H => E cls d H) := takes_of rfl rfl rfl rfl
  obtain ⟨a, F, fh, al, hd, th⟩ := h
  refine ⟨_, (pss_cons (ps_for (passes_of rfl) rfl (pi_range1 (by rfl) T.z_range (pa_cons pe_int pa_nil)) (pg_name (i := 2) sc__law_dues.nd rfl (by first | exact Or.inl rfl | exact Or.inr rfl)) (pss_cons (ps_if (PW.pt (pw_or (pt_cmpR op_lt (pe_ix ix_tup (pv 1) (pv 2) (fun _ _ => rfl)) pe_int (nomark _)) (pw_or1 (pt_cmpR op_ge (pe_ix ix_tup (pv 1) (pv 2) (fun _ _ => rfl)) (pe_callB call_len_seq (by rfl) T.z_len PySem.boot_len (pa_cons (pv 0) pa_nil)) (nomark _))))) (pss_one (ps_ret (pe_op op_rep (pe_lst (pa_cons (pe_tup (pa_cons pe_str (pa_cons pe_str (pa_cons (pe_ix ix_tup (pv 1) (pv 2) (fun _ _ => rfl)) (pa_cons pe_bl pa_nil))))) pa_nil)) pe_int))) pss_nil)
      (pss_one (ps_if (pt_cmpR op_in_seq (pe_ix ix_tup (pv 1) (pv 2) (fun _ _ => rfl)) (pe_slice sl_tup (pv 1) po_none (po_some (pv 2))) (by rfl)) (pss_one (ps_ret (pe_op op_rep (pe_lst (pa_cons (pe_tup (pa_cons pe_str (pa_cons pe_str (pa_cons (pe_ix ix_tup (pv 1) (pv 2) (fun _ _ => rfl)) (pa_cons pe_bl pa_nil))))) pa_nil)) pe_int))) pss_nil))))
      (pss_cons (ps_set (i := 3) sc__law_dues.nd rfl (by first | exact Or.inl rfl | exact Or.inr rfl) (pe_callB (cr_sortedTD hr.rm) (by rfl) T.z_sorted (by decide +kernel) (pa_cons (pv 1) pa_nil)))
      (pss_cons (ps_set (i := 4) sc__law_dues.nd rfl (by first | exact Or.inl rfl | exact Or.inr rfl) (pe_callS (ok__law_inner T) (hr.rm.mono (by decide)) (by rfl) T.g__law_inner T.F__law_inner.kp (b__law_inner T) (fun σ => passAt tk σ) (pa_cons (pv 0) (pa_cons (pv 3) pa_nil))))
      (pss_cons (ps_if (pt_cmpR op_isN1 (pv 4) pe_non (nomark _)) (pss_one (ps_set (i := 5) sc__law_dues.nd rfl (by first | exact Or.inl rfl | exact Or.inr rfl) (pe_callS (ok__law_diagonals T) (hr.rm.mono (by decide)) (by rfl) T.g__law_diagonals T.F__law_diagonals.kp (b__law_diagonals T) (fun σ => passAt tk σ) (pa_cons (pv 0) (pa_cons (pv 3) pa_nil))))) (pss_one (ps_set (i := 5) sc__law_dues.nd rfl (by first | exact Or.inl rfl | exact Or.inr rfl) (pe_lst (pa_cons (pe_tup (pa_cons (pv 4) pa_nil)) (pa_cons (pe_callTy call_tuple_of (by rfl) T.z_tuple PyProof.Rows.boot_tuple (pa_cons (pe_lc (own := [("k", 2)]) (g := (gName 2)) (tt := (tTest (tOp rNe (tVar 2) (tVar 4)))) (te := (tVar 2)) rfl sc__law_dues.nd (pi_list (pv 3)) (blkOk_by (N := N__law_dues) (sc := defScope s__law_dues) (own := [("k", 2)]) (by decide +kernel)) (fun _ _ _ _ _ => (pg_name (i := 2) sc__law_dues.nd rfl (by first | exact Or.inl rfl | exact Or.inr rfl))) (fun _ _ _ _ _ => by exact pts_one (pt_cmpR op_ne (pv 2) (pv 4) (nomark _))) (fun _ _ _ _ _ => by exact (pv 2))) pa_nil)) pa_nil))))))
      (pss_cons (ps_set (i := 6) sc__law_dues.nd rfl (by first | exact Or.inl rfl | exact Or.inr rfl) (pe_callB (cr_reprV hr) (by rfl) T.z_repr (by decide +kernel) (pa_cons (pe_callTy call_tuple_of (by rfl) T.z_tuple PyProof.Rows.boot_tuple (pa_cons (pe_callB (cr_sortedD hr.rm) (by rfl) T.z_sorted (by decide +kernel) (pa_cons (pv 5) pa_nil)) pa_nil)) pa_nil)))
      (pss_one (ps_ret (pe_lst (pa_cons (pe_tup (pa_cons pe_str (pa_cons (pe_callB (cr_reprV hr) (by rfl) T.z_repr (by decide +kernel) (pa_cons (pv 4) pa_nil)) (pa_cons pe_int (pa_cons pe_bl pa_nil))))) (pa_cons (pe_tup (pa_cons pe_str (pa_cons (pv 6) (pa_cons pe_int (pa_cons pe_bl pa_nil))))) pa_nil)))))))))), ?_⟩
  obtain ⟨pts, x, y, z, u⟩ := a
  obtain ⟨hn, hl, g⟩ := hd
  simp only at hl hn g
  let W0 : WX := fun cls d _ H => E cls d H
  let ns : List Int := [x, y, z, u]
  have lp := dues_loop (K := K) (M := T.M) (W := W0) (pts := pts) (u := x) (v := y) (z := z) (y := u)
  have ho : out__law_dues T (pts, x, y, z, u) = .ok (dv K (.list [orE (badNos pts.length ns) (tldD (toldV true pts ns)), orE (badNos pts.length ns) (tldD (toldV false pts ns))])) := rfl
  rw [ho] at th
  cases hb : badNos pts.length ns with
  | some e =>
    rw [hb] at lp th
    exact fin_ok (K := K) (M := T.M) (Ps := args__law_dues T (pts, x, y, z, u)) (r := .rt (dv K (.list [raisedD e, raisedD e]))) (js_rt lp) (by exact rfl) fh al th
  | none =>
    rw [hb] at lp th
    obtain ⟨⟨n1, n2, n3, n4⟩, nd⟩ := nos4 hb
    have hr0 : ∀ k ∈ ns, inR2 pts k := fun k hk => no_in (badNos_no hb k hk)
    obtain ⟨a, b, c, d, es, h4, l1, l2, l3⟩ := srt4 (l := ns) rfl nd hr0
    let L : List Int := [a, b, c, d]
    have eL : srt ns = L := es
    have hrL : ∀ k ∈ L, inR2 pts k := h4.mem
    have pmL : L.Perm ns := eL ▸ srt_perm ns
    have f4 : Four pts.length L := ⟨rfl, pmL.nodup_iff.mpr nd, fun k hk => r2_no (hrL k hk)⟩
    obtain ⟨⟨p, r1, q, r2, e1, lt, pm, m1, m2, k1, k2⟩⟩ := spl_of h4 l1 l2 l3
    have et : toldV true pts ns = optI (inn pts L) := by
      show (if true = true then optI (inn pts (srt ns)) else _) = _
      rw [if_pos rfl, eL]
    have ef : toldV false pts ns = .tuple ([p :: r1, q :: r2].map tupI) := by
      show (if false = true then _ else encS (spl pts (srt ns))) = _
      rw [if_neg (by decide), eL, e1]
      rfl
    rw [et, ef] at th
    let base : Option PV → Option PV → Option PV → Option PV → Kn := fun q3 q4 q5 q6 => [some (dv K (.list (pts.map pD))), some (dv K (tupI ns)), none, q3, q4, q5, q6]
    have s3 : JD K T.M W0 (tCB (rSortedTD K) (tCons (tVar 1) tNil)) (base none none none none) (.list (L.map .int)) := je_sortTD (xs := ns.map .int) (je_var (i := 1) rfl) (pmL.symm.map _) (List.pairwise_map.mpr (by
      have : L.Pairwise (fun x y => dLt (.int x) (.int y) = true) := by
        have q : L.Pairwise (fun x y => x < y) := by
          show [a, b, c, d].Pairwise _
          simp
          omega
        exact q.imp fun {x y} h => (dLt_int x y).trans (decide_eq_true h)
      exact this)) (alike_int _) (sortable_int _) (fun d hd => by
        obtain ⟨v, _, rfl⟩ := List.mem_map.mp hd
        simp only [PyData.depth]
        decide)
    have part : JS K T.M W0 (tIfS (tTest (tOp rIsN (tVar 4) (tC .non))) (tAsg (tCallS (Prm K T.M (args__law_diagonals T) dom__law_diagonals (out__law_diagonals T)) (WE W0) (tCons (tVar 0) (tCons (tVar 3) tNil))) (gName 5)) (tAsg (tLst (tCons (tTup (tCons (tVar 4) tNil)) (tCons (tCB (rTupS K) (tCons (tLc (iList K (tVar 3)) (gName 2) (tTest (tOp rNe (tVar 2) (tVar 4))) (tVar 2) [2]) tNil)) tNil))) (gName 5))) (base (some (dv K (.list (L.map .int)))) (some (dv K (optI (inn pts L)))) none none) (.nx (base (some (dv K (.list (L.map .int)))) (some (dv K (optI (inn pts L)))) (some (dv K (.list ([prt pts L, rst L (prt pts L)].map tupI)))) none)) := by
      cases hi : inn pts L with
      | none =>
        rw [prt_none hi, ← dpa_eq h4]
        exact js_if (b := true) (jt_test (je_isN (je_var (i := 4) rfl) (.inr ⟨rfl, rfl⟩))) (fun _ => js_set (i := 5) (je_call (args := args__law_diagonals T) (dom := dom__law_diagonals) (out := out__law_diagonals T) (pts, a, b, c, d) (ja_cons (je_var (i := 0) rfl) (ja_cons (je_var (i := 3) rfl) ja_nil)) ⟨hn, hl, g, h4, inn_none h4 hi⟩)) (fun z => Bool.noConfusion z)
      | some k =>
        rw [prt_some hi, rst_one]
        exact js_if (b := false) (jt_test (je_isN (je_var (i := 4) rfl) (.inl ⟨(fun z => by cases z), rfl⟩))) (fun z => Bool.noConfusion z) (fun _ => js_set (i := 5) (je_lst (ds := [tupI [k], tupI (rmI L k)]) (ja_cons (je_tup (ds := [.int k]) (ja_cons (je_var (i := 4) rfl) ja_nil)) (ja_cons (je_tupL (je_lc (vs := [2]) (W' := fun _ _ _ _ => False) L .int (fun m => decide (m ≠ k)) .int (ji_list (je_var (i := 3) rfl)) (show 4 ≤ 90000 by decide) fun m hm => ⟨_, jg_name, jt_test (je_neI2 (je_var (i := 2) rfl) (je_var (i := 4) rfl)), fun _ => je_var (i := 2) rfl⟩)) ja_nil))))
    have sS : Sb (.tuple ([p :: r1, q :: r2].map tupI)) 3 538 := sb_encS hl (fun x hx => hrL x (m1 x hx)) (fun x hx => hrL x (m2 x hx)) (by rw [List.length_cons]; omega) (by rw [List.length_cons]; omega)
    exact fin_ok (K := K) (M := T.M) (Ps := args__law_dues T (pts, x, y, z, u)) (r := .rt (dv K (.list [tldD (optI (inn pts L)), tldD (.tuple ([p :: r1, q :: r2].map tupI))]))) (js_seq lp (js_seq (js_set (i := 3) s3) (js_seq (js_set (i := 4) (P := dv K (optI (inn pts L))) (je_call (args := args__law_inner T) (dom := dom__law_inner) (out := out__law_inner T) (pts, true, L) (ja_cons (je_var (i := 0) rfl) (ja_cons (je_var (i := 3) rfl) ja_nil)) ⟨hn, f4⟩)) (js_seq part (js_seq (js_set (i := 6) (je_reprV (je_tupL (je_parts (je_var (i := 5) rfl) pm lt)) sS))
      (js_ret (je_lst (ds := [tldD (optI (inn pts L)), tldD (.tuple ([p :: r1, q :: r2].map tupI))]) (ja_cons (je_tup (ds := [.str "told", .str _, .int 0, .bool true]) (ja_cons je_str (ja_cons (je_reprV (je_var (i := 4) rfl) (sb_optI hl hrL)) (ja_cons je_int (ja_cons je_bl ja_nil))))) (ja_cons (je_tup (ds := [.str "told", .str _, .int 0, .bool true]) (ja_cons je_str (ja_cons (je_var (i := 6) rfl) (ja_cons je_int (ja_cons je_bl ja_nil))))) ja_nil))))))))) (by exact rfl) fh al th
end K11

namespace K11
open PySem PySem.Spec PyProof.Rows L2 Evl EB PySem.W
def tn (t : Bool) : Str := if t then "inner" else "split"
theorem tn_dec (t : Bool) : decide (tn t = ("inner" : Str)) = t := by cases t <;> decide
def args__law_told {K : PySem.W.Frag} {mg : Str → Option Value} (T : Tx K mg) : Bool × List Pt × Int × Int × Int × Int → List PV := fun a => [dv K (.str (tn a.1)), ob1 K T.a_Floor "points" (.tuple (a.2.1.map pD)), dv K (tupI (l4 a.2))]
def dom__law_told : Bool × List Pt × Int × Int × Int × Int → Prop := fun a => dom_split a.2
def out__law_told {K : PySem.W.Frag} {mg : Str → Option Value} (T : Tx K mg) : Bool × List Pt × Int × Int × Int × Int → Out := fun a => .ok (dv K (answ a.1 a.2.1 (l4 a.2)))
abbrev tbTold {K : PySem.W.Frag} {mg : Str → Option Value} (T : Tx K mg) : WX → TS := fun W =>
  tIfS (tTest (tOp rEq (tVar 0) (tC (.str "inner"))))
    (tAsg (tCallS (Prm K T.M (args_inner_of T) dom_inner_of (out_inner_of T)) (WE W) (tCons (tVar 1) (tCons (tVar 3) (tCons (tVar 4) (tCons (tVar 5) (tCons (tVar 6) tNil)))))) (gName 7))
    (tAsg (tCallS (Prm K T.M (args_split T) dom_split (out_split T)) (WE W) (tCons (tVar 1) (tCons (tVar 3) (tCons (tVar 4) (tCons (tVar 5) (tCons (tVar 6) tNil)))))) (gName 7))
def goodV {pts : List Pt} {ns : List Int} (t : Bool) (h : badNos pts.length ns = none) : Prop := True
theorem inn_srt {pts : List Pt} (g : Gp pts) {x y z u : Int} (hb : badNos pts.length [x, y, z, u] = none) : inn pts (srt [x, y, z, u]) = inn pts [x, y, z, u] := by
  obtain ⟨_, nd⟩ := nos4 hb
  have hr0 : ∀ k ∈ [x, y, z, u], inR2 pts k := fun k hk => no_in (badNos_no hb k hk)
  obtain ⟨a, b, c, d, es, h4, _⟩ := srt4 (l := [x, y, z, u]) rfl nd hr0
  have pm : [a, b, c, d].Perm [x, y, z, u] := es ▸ srt_perm [x, y, z, u]
  rw [es, inn_perm g h4 pm]
theorem sb_told {pts : List Pt} (hl : pts.length ≤ 10) (g : Gp pts) {x y z u : Int} (hb : badNos pts.length [x, y, z, u] = none) (t : Bool) : Sb (toldV t pts [x, y, z, u]) 3 538 := by
  obtain ⟨_, nd⟩ := nos4 hb
  have hr0 : ∀ k ∈ [x, y, z, u], inR2 pts k := fun k hk => no_in (badNos_no hb k hk)
  obtain ⟨a, b, c, d, es, h4, l1, l2, l3⟩ := srt4 (l := [x, y, z, u]) rfl nd hr0
  unfold toldV
  rw [es]
  cases t with
  | true =>
    rw [if_pos rfl]
    exact (sb_optI hl h4.mem).up (by decide) (by decide)
  | false =>
    rw [if_neg (by decide)]
    obtain ⟨⟨p, r1, q, r2, e1, lt, pm, m1, m2, k1, k2⟩⟩ := spl_of h4 l1 l2 l3
    rw [e1]
    exact sb_encS hl (fun x hx => h4.mem x (m1 x hx)) (fun x hx => h4.mem x (m2 x hx)) (by rw [List.length_cons]; omega) (by rw [List.length_cons]; omega)
theorem strOk_optI (o : Option Int) : PyData.strOk (optI o).shown = true := strOk_of fun k hk => by
  cases o with
  | none => exact big_none hk
  | some i => exact big_int hk i
theorem big_tupI {k : Nat} (hk : 0x110000 ≤ k) (l : List Int) : k ∉ (tupI l).shown.cps.toList := big_tup hk fun x hx => by
  obtain ⟨i, _, rfl⟩ := List.mem_map.mp hx
  exact big_int hk i
theorem strOk_encS (x : List Int × List Int) : PyData.strOk (encS x).shown = true := strOk_of fun k hk => big_tup hk fun d hd => by
  simp only [List.mem_cons, List.not_mem_nil, or_false] at hd
  rcases hd with rfl | rfl
  · exact big_tupI hk _
  · exact big_tupI hk _
theorem strOk_told (t : Bool) (pts : List Pt) (ns : List Int) : PyData.strOk (toldV t pts ns).shown = true := by
  unfold toldV
  split
  · exact strOk_optI _
  · exact strOk_encS _
theorem badNos_i {n : Int} {ns : List Int} {e : Er} (h : badNos n ns = some e) : ∃ i, e.val = .int i := by
  obtain ⟨k, _, hk⟩ := List.exists_of_findSome?_eq_some h
  unfold badNo at hk
  cases hg : ns[k]? with
  | none => rw [hg] at hk; cases hk
  | some i =>
    rw [hg] at hk
    dsimp only at hk
    cases h1 : isNo i n with
    | false =>
      rw [h1] at hk
      cases hk
      exact ⟨i, rfl⟩
    | true =>
      rw [h1] at hk
      dsimp only at hk
      cases h2 : (ns.take k).contains i with
      | true =>
        rw [h2] at hk
        cases hk
        exact ⟨i, rfl⟩
      | false => rw [h2] at hk; cases hk
theorem ok_answ (t : Bool) (pts : List Pt) (ns : List Int) : Ok (answ t pts ns) 1 := by
  unfold answ
  cases hb : badNos pts.length ns with
  | some e =>
    obtain ⟨i, hi⟩ := badNos_i hb
    exact ok_raised (n := 0) (by rw [hi]; exact ok_int)
  | none => exact ok4 (n := 0) (ok_str (by decide +kernel)) (ok_str (strOk_told t pts ns)) ok_int ok_bl
theorem ok__law_told {P : Program} {w : World} {K : PySem.W.Frag} {mg : Str → Option Value} {base : Heap} (T : Tx K mg) : FnG P w K mg base (L2.CX P w) 9 T.a__law_told T.fd__law_told ["name", "floor", "numbers"] (Prm K T.M (args__law_told T) dom__law_told (out__law_told T)) := by
  refine okG T.F__law_told sc__law_told (fun vs H Q E h => by obtain ⟨a, F, _, al, _⟩ := h; exact al.length) (fun cdv A outer s H vs Q E hr h => ?_)
  have tk : Takes (cxOf (L2.CX P w) P w K mg base N__law_told "_law_told" (defScope s__law_told) T.a__law_told cdv A outer s H E) (fun cls d _ H => E cls d H) := takes_of rfl rfl rfl rfl
  obtain ⟨a, F, fh, al, hd, th⟩ := h
  refine ⟨_, (pss_cons (ps_asg (pv 2) (pg_tup rfl (pgs_cons (pg_name (i := 3) sc__law_told.nd rfl (by first | exact Or.inl rfl | exact Or.inr rfl)) (pgs_cons (pg_name (i := 4) sc__law_told.nd rfl (by first | exact Or.inl rfl | exact Or.inr rfl)) (pgs_cons (pg_name (i := 5) sc__law_told.nd rfl (by first | exact Or.inl rfl | exact Or.inr rfl)) (pgs_cons (pg_name (i := 6) sc__law_told.nd rfl (by first | exact Or.inl rfl | exact Or.inr rfl)) pgs_nil))))))
      (pss_cons (ps_try_named (tb := fun W => _) rfl rfl sc__law_told.nd tk (fun W pn xe tkb pob => (pss_one (ps_if (pt_cmpR op_eq (pv 0) pe_str (nomark _)) (pss_one (ps_set (i := 7) sc__law_told.nd rfl (by first | exact Or.inl rfl | exact Or.inr rfl) (pe_callS (ok_inner_of T) (hr.rm.mono (by decide)) (by rfl) T.g_inner_of T.F_inner_of.kp (b_inner_of T) (fun σ => passAt tkb σ) (pa_cons (pv 1) (pa_cons (pv 3) (pa_cons (pv 4) (pa_cons (pv 5) (pa_cons (pv 6) pa_nil)))))))) (pss_one (ps_set (i := 7) sc__law_told.nd rfl (by first | exact Or.inl rfl | exact Or.inr rfl) (pe_callS (ok_split T) (hr.rm.mono (by decide)) (by rfl) T.g_split T.F_split.kp (b_split T) (fun σ => passAt tkb σ) (pa_cons (pv 1) (pa_cons (pv 3) (pa_cons (pv 4) (pa_cons (pv 5) (pa_cons (pv 6) pa_nil))))))))))) (Clauses.cons (c := .ref T.a_NoPoint) (i := 8) ⟨rfl, by decide, .inl T.g_NoPoint⟩ rfl rfl (fun a ob cls d pn hz hf => (pss_cons (ps_set (i := 9) sc__law_told.nd rfl (by first | exact Or.inl rfl | exact Or.inr rfl) (pe_and (pe_callB (call_isEx hz hf) (by rfl) T.z_isinstance PyProof.Rows.boot_isinstance (pa_cons (pv 8) (pa_cons (pe_glob (v := .ref T.a_BowlError) (by rfl) T.g_BowlError rfl) pa_nil))) (pe_one (pe_callB (call_isEx hz hf) (by rfl) T.z_isinstance PyProof.Rows.boot_isinstance (pa_cons (pv 8) (pa_cons (pe_bltn (v := .ty "ValueError") (by rfl) T.z_ValueError PyProof.Rows.Boot.«ValueError» rfl) pa_nil))))))
      (pss_one (ps_ret (pe_tup (pa_cons pe_str (pa_cons pe_str (pa_cons (pe_xf (T.X_NoPoint).xf (T.X_NoPoint).nf hz hf (pv 8)) (pa_cons (pe_and (pv 9) (pe_one (pe_not (pe_callB (call_isExT hz hf) (by rfl) T.z_isinstance PyProof.Rows.boot_isinstance (pa_cons (pv 8) (pa_cons (pe_tup (pa_cons (pe_glob (v := .ref T.a_Repeated) (by rfl) T.g_Repeated rfl) (pa_cons (pe_glob (v := .ref T.a_TooFar) (by rfl) T.g_TooFar rfl) pa_nil))) pa_nil)))))) pa_nil))))))))) (Clauses.cons (c := .ref T.a_Repeated) (i := 8) ⟨rfl, by decide, .inl T.g_Repeated⟩ rfl rfl (fun a ob cls d pn hz hf => (pss_cons (ps_set (i := 9) sc__law_told.nd rfl (by first | exact Or.inl rfl | exact Or.inr rfl) (pe_and (pe_callB (call_isEx hz hf) (by rfl) T.z_isinstance PyProof.Rows.boot_isinstance (pa_cons (pv 8) (pa_cons (pe_glob (v := .ref T.a_BowlError) (by rfl) T.g_BowlError rfl) pa_nil))) (pe_one (pe_callB (call_isEx hz hf) (by rfl) T.z_isinstance PyProof.Rows.boot_isinstance (pa_cons (pv 8) (pa_cons (pe_bltn (v := .ty "ValueError") (by rfl) T.z_ValueError PyProof.Rows.Boot.«ValueError» rfl) pa_nil))))))
      (pss_one (ps_ret (pe_tup (pa_cons pe_str (pa_cons pe_str (pa_cons (pe_xf (T.X_Repeated).xf (T.X_Repeated).nf hz hf (pv 8)) (pa_cons (pe_and (pv 9) (pe_one (pe_not (pe_callB (call_isExT hz hf) (by rfl) T.z_isinstance PyProof.Rows.boot_isinstance (pa_cons (pv 8) (pa_cons (pe_tup (pa_cons (pe_glob (v := .ref T.a_NoPoint) (by rfl) T.g_NoPoint rfl) (pa_cons (pe_glob (v := .ref T.a_TooFar) (by rfl) T.g_TooFar rfl) pa_nil))) pa_nil)))))) pa_nil))))))))) Clauses.nil)))
      (pss_one (ps_ret (pe_tup (pa_cons pe_str (pa_cons (pe_callB (cr_reprV hr) (by rfl) T.z_repr (by decide +kernel) (pa_cons (pv 7) pa_nil)) (pa_cons pe_int (pa_cons pe_bl pa_nil))))))))), ?_⟩
  obtain ⟨t, pts, x, y, z, u⟩ := a
  have hd0 := hd
  obtain ⟨hn, hl, g⟩ := hd
  simp only at hl hn g
  let W0 : WX := fun cls d _ H => E cls d H
  let ns : List Int := [x, y, z, u]
  let vv : PyData := if t = true then optI (inn pts ns) else encS (spl pts (srt ns))
  let ps1 : Kn := [some (dv K (.str (tn t))), some (ob1 K T.a_Floor "points" (.tuple (pts.map pD))), some (dv K (tupI ns)), some (dv K (.int x)), some (dv K (.int y)), some (dv K (.int z)), some (dv K (.int u)), none, none, none]
  have h0 : JS K T.M W0 (tAsg (tVar 2) (gTup K 4 (gCons (gName 3) (gCons (gName 4) (gCons (gName 5) (gCons (gName 6) gNil)))))) (entry N__law_told (args__law_told T (t, pts, x, y, z, u))) (.nx ps1) := js_asg (je_var (i := 2) rfl) (jg_tup (vs := [3, 4, 5, 6]) (ds := [.int x, .int y, .int z, .int u]) (jgs_cons jg_name (jgs_cons jg_name (jgs_cons jg_name (jgs_cons jg_name jgs_nil)))))
  have hb : ∀ W' : WX, JS K T.M W' (tbTold T W') ps1 (asgR ps1 7 (outV K (badNos pts.length ns) vv)) := fun W' => by
    refine js_if (b := t) (jt_is (jt_test (je_eqS (je_var (i := 0) rfl) je_str)) (tn_dec t)) (fun h1 => ?_) (fun h0 => ?_)
    · subst h1
      exact js_setO (je_call (args := args_inner_of T) (dom := dom_inner_of) (out := out_inner_of T) (pts, x, y, z, u) (ja_cons (je_var (i := 1) rfl) (ja_cons (je_var (i := 3) rfl) (ja_cons (je_var (i := 4) rfl) (ja_cons (je_var (i := 5) rfl) (ja_cons (je_var (i := 6) rfl) ja_nil))))) ⟨hn, hl⟩)
    · subst h0
      exact js_setO (je_call (args := args_split T) (dom := dom_split) (out := out_split T) (pts, x, y, z, u) (ja_cons (je_var (i := 1) rfl) (ja_cons (je_var (i := 3) rfl) (ja_cons (je_var (i := 4) rfl) (ja_cons (je_var (i := 5) rfl) (ja_cons (je_var (i := 6) rfl) ja_nil))))) hd0)
  have ho : out__law_told T (t, pts, x, y, z, u) = .ok (dv K (orE (badNos pts.length ns) (tldD (toldV t pts ns)))) := rfl
  rw [ho] at th
  cases hq : badNos pts.length ns with
  | some e =>
    rw [hq] at hb th
    refine fin_ok (K := K) (M := T.M) (Ps := args__law_told T (t, pts, x, y, z, u)) (r := .rt (dv K (raisedD e))) (js_seq h0 (js_rt (js_try_er (tb := tbTold T) hb ?_))) (by exact rfl) fh al th
    obtain ⟨c, d⟩ := e
    rcases badNos_c hq with hc | hc
    · cases (show c = .NoPoint from hc)
      exact .inl ⟨T.x_NoPoint_NoPoint, suite_std (c := .NoPoint) (show 8 < 10 by decide) (show 9 < 10 by decide) (by decide) T.X_NoPoint.ek T.k_NoPoint_BowlError T.k_NoPoint_ValueError T.k_NoPoint_Repeated_TooFar⟩
    · cases (show c = .Repeated from hc)
      exact .inr ⟨T.x_Repeated_NoPoint, .inl ⟨T.x_Repeated_Repeated, suite_std (c := .Repeated) (show 8 < 10 by decide) (show 9 < 10 by decide) (by decide) T.X_Repeated.ek T.k_Repeated_BowlError T.k_Repeated_ValueError T.k_Repeated_NoPoint_TooFar⟩⟩
  | none =>
    rw [hq] at hb th
    have ev : vv = toldV t pts ns := by
      show (if t = true then optI (inn pts ns) else encS (spl pts (srt ns))) = (if t = true then optI (inn pts (srt ns)) else encS (spl pts (srt ns)))
      rw [inn_srt g hq]
    rw [ev] at hb
    exact fin_ok (K := K) (M := T.M) (Ps := args__law_told T (t, pts, x, y, z, u)) (r := .rt (dv K (tldD (toldV t pts ns)))) (js_seq h0 (js_seq (js_try_ok (tb := tbTold T) (r := .nx (ps1.set 7 (some (dv K (toldV t pts ns))))) hb (fun _ q => nomatch q))
      (js_ret (je_tup (ds := [.str "told", .str _, .int 0, .bool true]) (ja_cons je_str (ja_cons (je_reprV (je_var (i := 7) rfl) (sb_told hl g hq t)) (ja_cons je_int (ja_cons je_bl ja_nil)))))))) (by exact rfl) fh al th
def args__law_four_holds {K : PySem.W.Frag} {mg : Str → Option Value} (T : Tx K mg) : List Pt × Int × Int × Int × Int → List PV := fun a => [ob1 K T.a_Floor "points" (.tuple (a.1.map pD)), dv K (.list (a.1.map pD)), dv K (tupI (l4 a))]
def dom__law_four_holds : List Pt × Int × Int × Int × Int → Prop := dom_split
def out__law_four_holds {K : PySem.W.Frag} {mg : Str → Option Value} (T : Tx K mg) : List Pt × Int × Int × Int × Int → Out := fun _ => .ok (dv K (.bool true))
theorem je_eqR2 {K : PySem.W.Frag} {M : EC → Addr} {W : WX} {ps : Kn} {ta tb : TE} {d : PyData} {n : Nat} (ha : JD K M W ta ps d) (hb : JD K M W tb ps d) (o : Ok d n) (hn : n ≤ 64 := by decide) : JD K M W (tOp (rEqD K) ta tb) ps (.bool true) := je_is (je_eqD ha hb (o.sh hn) (o.sh hn)) (by rw [SeqAt.eqv_refl d o.c])
theorem ok__law_four_holds {P : Program} {w : World} {K : PySem.W.Frag} {mg : Str → Option Value} {base : Heap} (T : Tx K mg) : FnG P w K mg base (L2.CX P w) 10 T.a__law_four_holds T.fd__law_four_holds ["floor", "points", "numbers"] (Prm K T.M (args__law_four_holds T) dom__law_four_holds (out__law_four_holds T)) := by
  refine okG T.F__law_four_holds sc__law_four_holds (fun vs H Q E h => by obtain ⟨a, F, _, al, _⟩ := h; exact al.length) (fun cdv A outer s H vs Q E hr h => ?_)
  have tk : Takes (cxOf (L2.CX P w) P w K mg base N__law_four_holds "_law_four_holds" (defScope s__law_four_holds) T.a__law_four_holds cdv A outer s H E) (fun cls d _ H => E cls d H) := takes_of rfl rfl rfl rfl
  obtain ⟨a, F, fh, al, hd, th⟩ := h
  refine ⟨_, (pss_cons (ps_set (i := 3) sc__law_four_holds.nd rfl (by first | exact Or.inl rfl | exact Or.inr rfl) (pe_callSG (ok__law_dues T) (hr.mono (by decide)) (by rfl) T.g__law_dues T.F__law_dues.kp (b__law_dues T) (fun σ => passAt tk σ) (pa_cons (pv 1) (pa_cons (pv 2) pa_nil))))
      (pss_cons (ps_if (pt_cmpR (op_neD hr.rm.units) (pe_callSG (ok__law_told T) (hr.mono (by decide)) (by rfl) T.g__law_told T.F__law_told.kp (b__law_told T) (fun σ => passAt tk σ) (pa_cons pe_str (pa_cons (pv 0) (pa_cons (pv 2) pa_nil)))) (pe_ix ix_list (pv 3) pe_int (fun _ _ => rfl)) (nomark _)) (pss_one (ps_ret pe_bl)) pss_nil)
      (pss_one (ps_ret (pe_cmpR (op_eqD hr.rm.units) (pe_callSG (ok__law_told T) (hr.mono (by decide)) (by rfl) T.g__law_told T.F__law_told.kp (b__law_told T) (fun σ => passAt tk σ) (pa_cons pe_str (pa_cons (pv 0) (pa_cons (pv 2) pa_nil)))) (pe_ix ix_list (pv 3) pe_int (fun _ _ => rfl)) (nomark _)))))), ?_⟩
  obtain ⟨pts, x, y, z, u⟩ := a
  let W0 : WX := fun cls d _ H => E cls d H
  let ds : PyData := .list [answ true pts [x, y, z, u], answ false pts [x, y, z, u]]
  let ps1 : Kn := [some (ob1 K T.a_Floor "points" (.tuple (pts.map pD))), some (dv K (.list (pts.map pD))), some (dv K (tupI [x, y, z, u])), some (dv K ds)]
  have told : ∀ t : Bool, JD K T.M W0 (tCallS (Prm K T.M (args__law_told T) dom__law_told (out__law_told T)) (WE W0) (tCons (tC (.str (tn t))) (tCons (tVar 0) (tCons (tVar 2) tNil)))) ps1 (answ t pts [x, y, z, u]) := fun t => je_call (args := args__law_told T) (dom := dom__law_told) (out := out__law_told T) (t, pts, x, y, z, u) (ja_cons je_str (ja_cons (je_var (i := 0) rfl) (ja_cons (je_var (i := 2) rfl) ja_nil))) hd
  exact fin_ok (K := K) (M := T.M) (Ps := args__law_four_holds T (pts, x, y, z, u)) (r := .rt (dv K (.bool true))) (js_seq (js_set (i := 3) (P := dv K ds) (je_call (args := args__law_dues T) (dom := dom__law_dues) (out := out__law_dues T) (pts, x, y, z, u) (ja_cons (je_var (i := 1) rfl) (ja_cons (je_var (i := 2) rfl) ja_nil)) hd))
    (js_seq (js_if (b := false) (jt_test (je_neR (told true) (je_ixL (ds := [answ true pts [x, y, z, u], answ false pts [x, y, z, u]]) (je_var (i := 3) rfl) (je_int (i := ((0 : Nat) : Int))) (atI_nat rfl)) (ok_answ true pts [x, y, z, u]))) (fun z => Bool.noConfusion z) (fun _ => js_next))
    (js_ret (je_eqR2 (told false) (je_ixL (ds := [answ true pts [x, y, z, u], answ false pts [x, y, z, u]]) (je_var (i := 3) rfl) (je_int (i := ((1 : Nat) : Int))) (atI_nat rfl)) (ok_answ false pts [x, y, z, u]))))) (by exact rfl) fh al th
end K11

namespace K11
open PySem PySem.Spec PyProof.Rows L2 Evl EB PySem.W
def smE (x : Int) : Prop := -(2 ^ 60) ≤ x ∧ x ≤ 2 ^ 60
theorem sm_getD {row : List Int} (h : ∀ x ∈ row, smE x) (m : Nat) : smE (row.getD m 0) := by
  by_cases hm : m < row.length
  · have : row.getD m 0 = row[m] := by simp [hm]
    rw [this]
    exact h _ (List.getElem_mem hm)
  · have : row.getD m 0 = 0 := by simp [hm]
    rw [this]
    unfold smE
    omega
theorem at_getD {row : List Int} {m : Nat} (h : m < row.length) : atI (row.map PyData.int) (m : Int) = some (.int (row.getD m 0)) := by
  refine atI_nat ?_
  rw [List.getElem?_map, List.getElem?_eq_getElem h]
  simp [h]
theorem filter_yes {α : Type} (l : List α) : (l.filter fun _ => true) = l := List.filter_eq_self.mpr fun _ _ => rfl
theorem rgN (n : Nat) : (rg 0 n).map PyData.int = (List.range n).map fun (i : Nat) => PyData.int (i : Int) := by
  unfold rg
  rw [List.map_map]
  refine List.map_congr_left fun i _ => ?_
  show PyData.int (0 + (i : Int)) = _
  rw [Int.zero_add]
theorem ji_uptoN {K : PySem.W.Frag} {M : EC → Addr} {W : WX} {ps : Kn} {te : TE} {n : Nat} (h : JD K M W te ps (.int n)) (hn : n ≤ 1000) : JI K M W (iRng1 (tCons te tNil)) ps ((List.range n).map fun (i : Nat) => PyData.int (i : Int)) := ji_is (ji_upto h hn) (rgN n)
theorem rgN2 (m k : Nat) : (rg (m : Int) k).map PyData.int = (List.range k).map fun (i : Nat) => PyData.int ((m + i : Nat) : Int) := by
  unfold rg
  rw [List.map_map]
  refine List.map_congr_left fun i _ => ?_
  show PyData.int ((m : Int) + (i : Int)) = _
  rw [Int.natCast_add]
def rowPi (pts : List (Int × Int)) : List Int := (rg 0 (pts.length - 1)).map fun j => ((cnts pts).count j : Int)
theorem rowP_pi (pts : List (Int × Int)) : rowP pts = (rowPi pts).map .int := by
  unfold rowP rowPi
  rw [List.map_map]
  rfl
theorem rowPi_len {pts : List (Int × Int)} : (rowPi pts).length = pts.length - 1 := by
  unfold rowPi
  rw [List.length_map, rg_length]
/-! ### corner_row -/
def caI (row : List Int) (i : Nat) : Int := ((List.range row.length).map fun j => row.getD j 0 * mcComb ((row.length - 1 - j : Nat) : Int) ((i + 1 : Nat) : Int)).sum
def caD (row : List Int) : List PyData := (List.range (row.length - 1)).map fun i => .int (caI row i)
theorem rgN3 (k : Nat) : (rg 3 k).map PyData.int = (List.range k).map fun (i : Nat) => PyData.int ((3 + i : Nat) : Int) := rgN2 3 k
def args_corners_by_lines {K : PySem.W.Frag} {mg : Str → Option Value} (T : Tx K mg) : List Int → List PV := fun a => [dv K (.list (a.map .int))]
def dom_corners_by_lines : List Int → Prop := fun a => 2 ≤ a.length ∧ a.length ≤ 9 ∧ ∀ x ∈ a, smE x
def out_corners_by_lines : List Int → List PyData := caD
theorem rowPi_sm {pts : List Pt} (h : pts.length ≤ 10) : ∀ x ∈ rowPi pts, smE x := fun x hx => by
  unfold rowPi at hx
  obtain ⟨j, hj, rfl⟩ := List.mem_map.mp hx
  have h1 : (cnts pts).count j ≤ (cnts pts).length := List.count_le_length
  have h2 : (cnts pts).length ≤ 100 := by
    unfold cnts
    rw [List.length_map]
    exact trip_len h
  unfold smE
  omega
theorem ok_corners_by_lines {P : Program} {w : World} {K : PySem.W.Frag} {mg : Str → Option Value} {base : Heap} (T : Tx K mg) : FnOk P w K mg base (L2.CX P w) 1 T.a_corners_by_lines T.fd_corners_by_lines ["row"] (PrmN K (args_corners_by_lines T) dom_corners_by_lines out_corners_by_lines) := by
  refine T.F_corners_by_lines.okX sc_corners_by_lines (fun vs H Q E h => by obtain ⟨a, F, _, al, _⟩ := h; exact al.length) (fun cdv A outer s H vs Q E hr h => ?_)
  have tk : Takes (cxOf (L2.CX P w) P w K mg base N_corners_by_lines "corners_by_lines" (defScope s_corners_by_lines) T.a_corners_by_lines cdv A outer s H E) (fun cls d _ H => E cls d H) := takes_of rfl rfl rfl rfl
  obtain ⟨a, F, fh, al, hd, th⟩ := h
  refine ⟨_, (pss_cons (ps_set (i := 1) sc_corners_by_lines.nd rfl (by first | exact Or.inl rfl | exact Or.inr rfl) (pe_op op_add (pe_callB call_len_seq (by rfl) T.z_len PySem.boot_len (pa_cons (pv 0) pa_nil)) pe_int))
      (pss_one (ps_ret (pe_lc (own := [("size", 3)]) (g := (gName 3)) (tt := tYes) (te := (tCB (rSum K) (tCons (tLc (iRng1 (tCons (tOp (rI0 fun i j => .int (i - j)) (tVar 1) (tC (.int 1))) tNil)) (gName 2) tYes (tOp (rI CMul fun i j => .int (i * j)) (tOp (rIxL K) (tVar 0) (tVar 2)) (tCB rComb (tCons (tOp (rI0 fun i j => .int (i - j)) (tOp (rI0 fun i j => .int (i - j)) (tVar 1) (tC (.int 2))) (tVar 2)) (tCons (tOp (rI0 fun i j => .int (i - j)) (tVar 3) (tC (.int 2))) tNil)))) [2]) tNil))) rfl sc_corners_by_lines.nd (pi_range2 (by rfl) T.z_range (pa_cons pe_int (pa_cons (pe_op op_add (pv 1) pe_int) pa_nil))) (blkOk_by (N := N_corners_by_lines) (sc := defScope s_corners_by_lines) (own := [("size", 3)]) (by decide +kernel)) (fun _ _ _ _ _ => (pg_name (i := 3) sc_corners_by_lines.nd rfl (by first | exact Or.inl rfl | exact Or.inr rfl))) (fun _ _ _ _ _ => by exact pts_nil) (fun _ _ _ _ _ => by exact (pe_callB (cr_sum rfl) (by rfl) T.z_sum (by decide +kernel) (pa_cons (pe_lc (own := [("j", 2)]) (g := (gName 2)) (tt := tYes) (te := (tOp (rI CMul fun i j => .int (i * j)) (tOp (rIxL K) (tVar 0) (tVar 2)) (tCB rComb (tCons (tOp (rI0 fun i j => .int (i - j)) (tOp (rI0 fun i j => .int (i - j)) (tVar 1) (tC (.int 2))) (tVar 2)) (tCons (tOp (rI0 fun i j => .int (i - j)) (tVar 3) (tC (.int 2))) tNil))))) rfl sc_corners_by_lines.nd (pi_range1 (by rfl) T.z_range (pa_cons (pe_op op_sub (pv 1) pe_int) pa_nil)) (by exact (show BlkOk N_corners_by_lines (relS _ (defScope s_corners_by_lines)) _ [("j", 2)] from blkOk_by (by decide +kernel))) (fun _ _ _ _ _ => (pg_name (i := 2) sc_corners_by_lines.nd rfl (by first | exact Or.inl rfl | exact Or.inr rfl))) (fun _ _ _ _ _ => by exact pts_nil) (fun _ _ _ _ _ => by exact (pe_op op_mul (pe_ix ix_list (pv 0) (pv 2) (fun _ _ => rfl)) (pe_callG (id := "math.comb") cr_comb (by rfl) T.g_comb (pa_cons (pe_op op_sub (pe_op op_sub (pv 1) pe_int) (pv 2)) (pa_cons (pe_op op_sub (pv 3) pe_int) pa_nil)))))) pa_nil))))))), ?_⟩
  obtain ⟨h2, h9, rs⟩ := hd
  let W0 : WX := fun cls d _ H => E cls d H
  have ho : out_corners_by_lines a = ((List.range (a.length - 1)).filter fun _ => true).map fun i => .int (caI a i) := by
    rw [filter_yes]
    rfl
  rw [ho] at th
  refine fin_new1 (M := T.M) (W := W0) (js_set (i := 1) (P := dv K (.int ((a.length : Int) + 1))) (je_add (je_is (je_lenL (je_var (i := 0) rfl)) (by rw [List.length_map])) je_int)) (jn_lc (M := T.M) (W := W0) (W' := fun _ _ _ _ => False) (List.range (a.length - 1)) (fun (i : Nat) => .int ((3 + i : Nat) : Int)) (fun _ => true) (fun i => .int (caI a i)) (ji_is (ji_rng2 (lo := 3) (n := (a.length : Int) + 1 + 1) (ja_cons je_int (ja_cons (je_add (je_var (i := 1) rfl) je_int) ja_nil)) ⟨by omega, by omega, by omega, by omega⟩) (by rw [show ((a.length : Int) + 1 + 1 - 3).toNat = a.length - 1 by omega]; exact rgN3 _)) (by rw [List.length_range]; omega) fun i hi => ⟨_, jg_name, jt_yes, fun _ => ?_⟩) fh al th
  have i9 := List.mem_range.mp hi
  refine je_sum (ns := (List.range a.length).map fun j => a.getD j 0 * mcComb ((a.length - 1 - j : Nat) : Int) ((i + 1 : Nat) : Int)) (je_is (je_lc (vs := [2]) (W' := fun _ _ _ _ => False) (List.range a.length) (fun (j : Nat) => .int (j : Int)) (fun _ => true) (fun j => .int (a.getD j 0 * mcComb ((a.length - 1 - j : Nat) : Int) ((i + 1 : Nat) : Int))) (ji_uptoN (je_is (je_sub (je_var (i := 1) rfl) je_int) (by congr 1; omega)) (by omega)) (by rw [List.length_range]; omega) fun j hj => ⟨_, jg_name, jt_yes, fun _ => ?_⟩) ?_)
  · have j9 := List.mem_range.mp hj
    have := sm_getD rs j
    unfold smE at this
    refine je_mul (je_ixL (je_var (i := 0) rfl) (je_var (i := 2) rfl) (at_getD j9)) (je_comb (a := ((a.length - 1 - j : Nat) : Int)) (b := ((i + 1 : Nat) : Int)) (je_is (je_sub (je_sub (je_var (i := 1) rfl) je_int) (je_var (i := 2) rfl)) (by congr 1; omega)) (je_is (je_sub (je_var (i := 3) rfl) je_int) (by congr 1; omega)) (by omega) (by omega) (by omega) (by omega)) (near_mul (a := a.getD j 0) (by omega))
  · rw [filter_yes, List.map_map]
    rfl
def args_corner_row {K : PySem.W.Frag} {mg : Str → Option Value} (T : Tx K mg) : List Pt → List PV := args_Floor___len__ T
def dom_corner_row : List Pt → Prop := fun a => dom_line_row a ∧ 3 ≤ a.length
def out_corner_row : List Pt → List PyData := fun a => caD (rowPi a)
theorem ok_corner_row {P : Program} {w : World} {K : PySem.W.Frag} {mg : Str → Option Value} {base : Heap} (T : Tx K mg) : FnOk P w K mg base (L2.CX P w) 8 T.a_corner_row T.fd_corner_row ["floor"] (PrmN K (args_corner_row T) dom_corner_row out_corner_row) := by
  refine T.F_corner_row.okX sc_corner_row (fun vs H Q E h => by obtain ⟨a, F, _, al, _⟩ := h; exact al.length) (fun cdv A outer s H vs Q E hr h => ?_)
  have tk : Takes (cxOf (L2.CX P w) P w K mg base N_corner_row "corner_row" (defScope s_corner_row) T.a_corner_row cdv A outer s H E) (fun cls d _ H => E cls d H) := takes_of rfl rfl rfl rfl
  obtain ⟨a, F, fh, al, hd, th⟩ := h
  refine ⟨_, (pss_one (ps_ret (pe_callS (ok_corners_by_lines T) (hr.mono (by decide)) (by rfl) T.g_corners_by_lines T.F_corners_by_lines.kp (b_corners_by_lines T) (fun σ => passAt tk σ) (pa_cons (pe_callS (ok_line_row T) (hr.mono (by decide)) (by rfl) T.g_line_row T.F_line_row.kp (b_line_row T) (fun σ => passAt tk σ) (pa_cons (pv 0) pa_nil)) pa_nil)))), ?_⟩
  obtain ⟨hd1, h3⟩ := hd
  obtain ⟨⟨hl, hn⟩, h1⟩ := hd1
  let W0 : WX := fun cls d _ H => E cls d H
  have rl : (rowPi a).length = a.length - 1 := rowPi_len
  have hr := jn_told (K := K) (M := T.M) (W := W0) (jn_call (K := K) (M := T.M) (W := W0) (ps := entry N_corner_row (args_corner_row T a)) (E := WE W0) (args := args_line_row T) (dom := dom_line_row) (out := out_line_row) a (ja_cons (je_var (i := 0) rfl) ja_nil) ⟨⟨hl, hn⟩, h1⟩)
  have eo : out_line_row a = (rowPi a).map .int := rowP_pi a
  rw [eo] at hr
  exact fin_new (jn_call (M := T.M) (W := W0) (args := args_corners_by_lines T) (dom := dom_corners_by_lines) (out := out_corners_by_lines) (rowPi a) (ja_cons hr ja_nil) ⟨by omega, by omega, rowPi_sm hl⟩) fh al th
end K11

namespace K11
open PySem PySem.Spec PyProof.Rows L2 Evl EB PySem.W
open DC (S)
/-! ### quadruples of numbers -/
theorem rg_cons (lo : Int) (m : Nat) : rg lo (m + 1) = lo :: rg (lo + 1) m := by
  unfold rg
  rw [List.range_succ_eq_map, List.map_cons, List.map_map]
  congr 1
  · simp
  · refine List.map_congr_left fun i _ => ?_
    show lo + ((i + 1 : Nat) : Int) = lo + 1 + (i : Int)
    omega
theorem A2_rg (f : Int → Int → Nat) (hi : Int) : ∀ (m : Nat) (lo : Int), lo + m = hi → FV.A2 f (rg lo m) = S (rg lo m) fun a => S (rg (a + 1) (hi - (a + 1)).toNat) (f a)
  | 0, lo, _ => rfl
  | m + 1, lo, h => by
    rw [rg_cons, FV.A2, DC.S_cons, A2_rg f hi m (lo + 1) (by omega), show (hi - (lo + 1)).toNat = m by omega]
theorem A3_rg (f : Int → Int → Int → Nat) (hi : Int) : ∀ (m : Nat) (lo : Int), lo + m = hi → FV.A3 f (rg lo m) = S (rg lo m) fun a => S (rg (a + 1) (hi - (a + 1)).toNat) fun b => S (rg (b + 1) (hi - (b + 1)).toNat) (f a b)
  | 0, lo, _ => rfl
  | m + 1, lo, h => by
    rw [rg_cons, FV.A3, DC.S_cons, A3_rg f hi m (lo + 1) (by omega), show (hi - (lo + 1)).toNat = m by omega, A2_rg (f lo) hi m (lo + 1) (by omega)]
theorem A4_rg (f : Int → Int → Int → Int → Nat) (hi : Int) : ∀ (m : Nat) (lo : Int), lo + m = hi → FQ.A4 f (rg lo m) = S (rg lo m) fun a => S (rg (a + 1) (hi - (a + 1)).toNat) fun b => S (rg (b + 1) (hi - (b + 1)).toNat) fun c => S (rg (c + 1) (hi - (c + 1)).toNat) (f a b c)
  | 0, lo, _ => rfl
  | m + 1, lo, h => by
    rw [rg_cons, FQ.A4, DC.S_cons, A4_rg f hi m (lo + 1) (by omega), show (hi - (lo + 1)).toNat = m by omega, A3_rg (f lo) hi m (lo + 1) (by omega)]
def app4 (f : Int → Int → Int → Int → Nat) (l : List Int) : Nat := match l with
  | [a, b, c, d] => f a b c d
  | _ => 0
theorem A4_subs (f : Int → Int → Int → Int → Nat) {n : Nat} (h : n ≤ 10) : FQ.A4 f (rg 0 n) = S (subsL n 4) (app4 f) := by
  rw [A4_rg f n n 0 (by omega), subs4_eq n (by omega), S_flat]
  refine DC.S_congr fun a _ => ?_
  rw [S_flat]
  refine DC.S_congr fun b _ => ?_
  rw [S_flat]
  refine DC.S_congr fun c _ => ?_
  rw [S_map]
  rfl
/-! ### the two counts -/
def dis (p q r s : Int) : Prop := p ≠ q ∧ p ≠ r ∧ p ≠ s ∧ q ≠ r ∧ q ≠ s ∧ r ≠ s
instance (p q r s : Int) : Decidable (dis p q r s) := by unfold dis; infer_instance
def Fs (pts : List Pt) (p q r s : Int) : Nat := if dis p q r s then b2 (gN pts p q r && !gN pts p q s) else 0
def Fr (pts : List Pt) (p q r s : Int) : Nat := if dis p q r s then b2 (!gN pts p q r && !gN pts p q s) else 0
theorem quad {pts : List Pt} (h : pts.length ≤ 10) (f : Int → Int → Int → Int → Nat) (hf : ∀ p q r s, ¬ dis p q r s → f p q r s = 0) : S (rg 0 pts.length) (fun p => S (rg 0 pts.length) fun q => S (rg 0 pts.length) fun r => S (rg 0 pts.length) (f p q r)) = S (subsL pts.length 4) (app4 (FQ.s4 f)) := by
  rw [← A4_subs _ h]
  exact FQ.O4 (fun a c d => hf _ _ _ _ fun z => z.1 rfl) (fun a c d => hf _ _ _ _ fun z => z.2.1 rfl) (fun a c d => hf _ _ _ _ fun z => z.2.2.1 rfl) (fun a c d => hf _ _ _ _ fun z => z.2.2.2.1 rfl) (fun a c d => hf _ _ _ _ fun z => z.2.2.2.2.1 rfl) (fun a c d => hf _ _ _ _ fun z => z.2.2.2.2.2 rfl) _
def isI (pts : List Pt) (l : List Int) : Nat := if (inn pts l).isSome = true then 1 else 0
theorem inn_b2 {pts : List Pt} (g : Gp pts) {a b c d : Int} (h : D4 pts a b c d) : b2 (arT pts b c d a) + b2 (arT pts a c d b) + b2 (arT pts a b d c) + b2 (arT pts a b c d) = isI pts [a, b, c, d] := by
  have s := h.sg g
  obtain ⟨e1, e2, e3, e4⟩ := inP4 h
  have u1 := ar_u1 s
  have u2 := ar_u2 s
  have u3 := ar_u3 s
  have u4 := ar_u4 s
  have u5 := ar_u5 s
  have u6 := ar_u6 s
  unfold isI inn
  simp only [List.find?_cons, List.find?_nil, e1, e2, e3, e4]
  generalize arT pts b c d a = A at *
  generalize arT pts a c d b = B at *
  generalize arT pts a b d c = C at *
  generalize arT pts a b c d = D at *
  cases A <;> cases B <;> cases C <;> cases D <;> simp_all [b2]
theorem s4_sep {pts : List Pt} (g : Gp pts) {a b c d : Int} (h : D4 pts a b c d) : FQ.s4 (Fs pts) a b c d = 4 + 2 * isI pts [a, b, c, d] := by
  rw [← inn_b2 g h, ← ct_sep (h.sg g)]
  simp only [FQ.s4, FQ.s3, FQ.s2, Fs, dis, ne_eq, h.ab, h.ac, h.ad, h.bc, h.bd, h.cd, Ne.symm h.ab, Ne.symm h.ac, Ne.symm h.ad, Ne.symm h.bc, Ne.symm h.bd, Ne.symm h.cd, not_false_eq_true, and_self, if_true]
  omega
theorem s4_rt {pts : List Pt} (g : Gp pts) {a b c d : Int} (h : D4 pts a b c d) : FQ.s4 (Fr pts) a b c d + 2 * isI pts [a, b, c, d] = 8 := by
  rw [← inn_b2 g h, ← ct_rt (h.sg g)]
  simp only [FQ.s4, FQ.s3, FQ.s2, Fr, dis, ne_eq, h.ab, h.ac, h.ad, h.bc, h.bd, h.cd, Ne.symm h.ab, Ne.symm h.ac, Ne.symm h.ad, Ne.symm h.bc, Ne.symm h.bd, Ne.symm h.cd, not_false_eq_true, and_self, if_true]
  omega
theorem four_D4 {pts : List Pt} {l : List Int} (h : Four pts.length l) : ∃ a b c d, l = [a, b, c, d] ∧ D4 pts a b c d := by
  obtain ⟨h4, nd, hr⟩ := h
  match l, h4 with
  | [a, b, c, d], _ =>
    simp only [List.nodup_cons, List.mem_cons, List.not_mem_nil, or_false, not_or, List.nodup_nil, and_true, not_false_eq_true] at nd
    obtain ⟨⟨n1, n2, n3⟩, ⟨n4, n5⟩, n6⟩ := nd
    exact ⟨a, b, c, d, rfl, no_in (hr a (by simp)), no_in (hr b (by simp)), no_in (hr c (by simp)), no_in (hr d (by simp)), n1, n2, n3, n4, n5, n6⟩
def nI (pts : List Pt) : Nat := S (subsL pts.length 4) (isI pts)
theorem pairs_nI (pts : List Pt) : (pairsI pts).length = nI pts := by
  unfold pairsI nI
  generalize subsL pts.length 4 = L
  induction L with
  | nil => rfl
  | cons l r ih =>
    rw [List.flatMap_cons, List.length_append, ih, DC.S_cons]
    congr 1
    unfold isI
    cases inn pts l <;> rfl
theorem sum_sep {pts : List Pt} (g : Gp pts) (h : pts.length ≤ 10) : S (rg 0 pts.length) (fun p => S (rg 0 pts.length) fun q => S (rg 0 pts.length) fun r => S (rg 0 pts.length) (Fs pts p q r)) = 4 * (subsL pts.length 4).length + 2 * nI pts := by
  rw [quad h (Fs pts) fun p q r s z => if_neg z]
  have : S (subsL pts.length 4) (app4 (FQ.s4 (Fs pts))) = S (subsL pts.length 4) fun l => 4 * 1 + 2 * isI pts l := DC.S_congr fun l hl => by
    obtain ⟨a, b, c, d, rfl, h4⟩ := four_D4 (subs4_four h hl).1
    exact s4_sep g h4
  rw [this, DC.S_add, DC.S_mul, DC.S_mul, DC.S_one]
  rfl
theorem sum_rt {pts : List Pt} (g : Gp pts) (h : pts.length ≤ 10) : S (rg 0 pts.length) (fun p => S (rg 0 pts.length) fun q => S (rg 0 pts.length) fun r => S (rg 0 pts.length) (Fr pts p q r)) + 2 * nI pts = 8 * (subsL pts.length 4).length := by
  rw [quad h (Fr pts) fun p q r s z => if_neg z]
  have e : S (subsL pts.length 4) (fun l => app4 (FQ.s4 (Fr pts)) l + 2 * isI pts l) = S (subsL pts.length 4) fun l => 8 * 1 := DC.S_congr fun l hl => by
    obtain ⟨a, b, c, d, rfl, h4⟩ := four_D4 (subs4_four h hl).1
    exact s4_rt g h4
  rw [DC.S_add, DC.S_mul, DC.S_mul, DC.S_one] at e
  exact e
end K11

namespace K11
open PySem PySem.Spec PyProof.Rows L2 Evl EB PySem.W
open DC (S)
/-! ### lefts and rights of a line -/
def lN (pts : List Pt) (p q : Int) : Nat := S (rg 0 pts.length) fun r => b2 (gN pts p q r)
def rB (pts : List Pt) (p q s : Int) : Nat := if s ≠ p ∧ s ≠ q then b2 (!gN pts p q s) else 0
def rN (pts : List Pt) (p q : Int) : Nat := S (rg 0 pts.length) (rB pts p q)
theorem rg_nd (lo : Int) (n : Nat) : (rg lo n).Nodup := by
  unfold rg
  exact List.nodup_iff_pairwise_ne.mpr (List.pairwise_map.mpr ((List.nodup_iff_pairwise_ne.mp List.nodup_range).imp fun {i j} h z => h (by omega)))
theorem S_mulR {α : Type} (c : Nat) (xs : List α) (f : α → Nat) : S xs (fun x => f x * c) = S xs f * c := by
  rw [Nat.mul_comm, ← DC.S_mul]
  exact DC.S_congr fun x _ => Nat.mul_comm _ _
theorem Fs_mul {pts : List Pt} {p q : Int} (h : p ≠ q) (r s : Int) : Fs pts p q r s = b2 (gN pts p q r) * rB pts p q s := by
  unfold Fs rB dis
  by_cases h1 : p = r
  · subst h1
    simp [gN_aba, b2]
  · by_cases h2 : q = r
    · subst h2
      simp [gN_abb, b2]
    · by_cases h3 : p = s
      · subst h3
        simp
      · by_cases h4 : q = s
        · subst h4
          simp
        · by_cases h5 : r = s
          · subst h5
            simp [Ne.symm h1, Ne.symm h2, b2]
            cases gN pts p q r <;> simp
          · simp [h, h1, h2, h3, h4, h5, Ne.symm h3, Ne.symm h4, b2]
            cases gN pts p q r <;> cases gN pts p q s <;> simp
theorem Fr_mul {pts : List Pt} {p q : Int} (h : p ≠ q) (r s : Int) : Fr pts p q r s + (if s = r then rB pts p q s else 0) = rB pts p q r * rB pts p q s := by
  unfold Fr rB dis
  by_cases h1 : p = r
  · subst h1
    by_cases h5 : s = p
    · subst h5
      simp
    · simp [h5]
  · by_cases h2 : q = r
    · subst h2
      by_cases h5 : s = q
      · subst h5
        simp
      · simp [h5]
    · by_cases h3 : p = s
      · subst h3
        simp
      · by_cases h4 : q = s
        · subst h4
          simp
        · by_cases h5 : r = s
          · subst h5
            simp [Ne.symm h1, Ne.symm h2, b2]
            cases gN pts p q r <;> simp
          · simp [h, h1, h2, h3, h4, h5, Ne.symm h1, Ne.symm h2, Ne.symm h3, Ne.symm h4, Ne.symm h5, b2]
            cases gN pts p q r <;> cases gN pts p q s <;> simp
theorem sum_Fs (pts : List Pt) {p q : Int} (h : p ≠ q) : S (rg 0 pts.length) (fun r => S (rg 0 pts.length) (Fs pts p q r)) = lN pts p q * rN pts p q := by
  unfold lN rN
  rw [← S_mulR]
  refine DC.S_congr fun r _ => ?_
  rw [← DC.S_mul]
  exact DC.S_congr fun s _ => Fs_mul h r s
theorem sum_Fr (pts : List Pt) {p q : Int} (h : p ≠ q) : S (rg 0 pts.length) (fun r => S (rg 0 pts.length) (Fr pts p q r)) + rN pts p q = rN pts p q * rN pts p q := by
  have e1 : rN pts p q = S (rg 0 pts.length) fun r => S (rg 0 pts.length) fun s => if s = r then rB pts p q s else 0 := DC.S_congr fun r hr => (DC.S_point (rg_nd _ _) hr (rB pts p q)).symm
  have e2 : rN pts p q * rN pts p q = S (rg 0 pts.length) fun r => S (rg 0 pts.length) fun s => rB pts p q r * rB pts p q s := by
    show S (rg 0 pts.length) (rB pts p q) * _ = _
    rw [← S_mulR]
    refine DC.S_congr fun r _ => ?_
    rw [DC.S_mul]
    rfl
  rw [e2]
  conv => lhs; rhs; rw [e1]
  rw [← DC.S_add]
  refine DC.S_congr fun r _ => ?_
  rw [← DC.S_add]
  exact DC.S_congr fun s _ => Fr_mul h r s
theorem lr_sum {pts : List Pt} {p q : Int} (hp : inR2 pts p) (hq : inR2 pts q) (h : p ≠ q) : lN pts p q + rN pts p q + 2 = pts.length := by
  have key : S (rg 0 pts.length) (fun s => (b2 (gN pts p q s) + rB pts p q s) + ((if s = p then (fun _ => 1) s else 0) + (if s = q then (fun _ => 1) s else 0))) = S (rg 0 pts.length) fun _ => 1 := DC.S_congr fun s _ => by
    unfold rB
    by_cases h1 : s = p
    · subst h1
      simp [gN_aba, b2, h]
    · by_cases h2 : s = q
      · subst h2
        simp [gN_abb, b2, h1]
      · simp [h1, h2, b2]
        cases gN pts p q s <;> simp
  rw [DC.S_add, DC.S_add, DC.S_add, DC.S_point (rg_nd _ _) (rg_mem2.mpr hp), DC.S_point (rg_nd _ _) (rg_mem2.mpr hq), DC.S_one, rg_length] at key
  unfold lN rN
  omega
/-! ### the row, by numbers -/
theorem S_idx (pts : List Pt) (f : Pt → Nat) : S pts f = S (rg 0 pts.length) fun i => f (pt pts i) := by
  rw [S_pts, S_rg]
theorem lf_lN (pts : List Pt) (p q : Int) : DC.lf pts gA (pt pts p) (pt pts q) = lN pts p q := by
  unfold DC.lf lN
  rw [S_idx]
  rfl
def TN (pts : List Pt) (j : Nat) : Nat := S (rg 0 pts.length) fun p => S (rg 0 pts.length) fun q => if p ≠ q ∧ lN pts p q = j then 1 else 0
theorem T_TN {pts : List Pt} (g : Gp pts) (j : Nat) : DC.T pts gA j = TN pts j := by
  unfold DC.T TN
  rw [S_idx]
  refine DC.S_congr fun p hp => ?_
  rw [S_idx]
  refine DC.S_congr fun q hq => ?_
  rw [lf_lN]
  by_cases h : p = q
  · subst h
    simp
  · have := pt_inj g (rg_mem2.mp hp) (rg_mem2.mp hq) h
    simp [h, this]
theorem row_sum {pts : List Pt} (hf : Nat → Nat) : S (List.range (pts.length - 1)) (fun j => hf j * TN pts j) = S (rg 0 pts.length) fun p => S (rg 0 pts.length) fun q => if p ≠ q then hf (lN pts p q) else 0 := by
  have e1 : S (List.range (pts.length - 1)) (fun j => hf j * TN pts j) = S (List.range (pts.length - 1)) fun j => S (rg 0 pts.length) fun p => S (rg 0 pts.length) fun q => if p ≠ q ∧ lN pts p q = j then hf j else 0 := DC.S_congr fun j _ => by
    unfold TN
    rw [← DC.S_mul]
    refine DC.S_congr fun p _ => ?_
    rw [← DC.S_mul]
    refine DC.S_congr fun q _ => ?_
    split <;> simp
  rw [e1, DC.S_comm]
  refine DC.S_congr fun p hp => ?_
  rw [DC.S_comm]
  refine DC.S_congr fun q hq => ?_
  by_cases h : p = q
  · subst h
    simp only [ne_eq, not_true_eq_false, false_and, if_false]
    exact DC.S_zero _
  · have lr := lr_sum (rg_mem2.mp hp) (rg_mem2.mp hq) h
    rw [if_pos h, ← DC.S_point List.nodup_range (List.mem_range.mpr (show lN pts p q < pts.length - 1 by omega)) hf]
    refine DC.S_congr fun j _ => ?_
    by_cases e : j = lN pts p q
    · subst e
      simp [h]
    · have : ¬ lN pts p q = j := fun z => e z.symm
      simp [h, e, this]
theorem id_sep {pts : List Pt} (g : Gp pts) (h : pts.length ≤ 10) : S (List.range (pts.length - 1)) (fun j => (j * (pts.length - 2 - j)) * TN pts j) = 4 * (subsL pts.length 4).length + 2 * nI pts := by
  rw [row_sum fun j => j * (pts.length - 2 - j), ← sum_sep g h]
  refine DC.S_congr fun p hp => DC.S_congr fun q hq => ?_
  by_cases e : p = q
  · subst e
    simp only [ne_eq, not_true_eq_false, if_false]
    refine ((DC.S_congr fun r _ => ?_).trans (DC.S_zero _)).symm
    refine (DC.S_congr fun s _ => ?_).trans (DC.S_zero _)
    exact if_neg fun z => z.1 rfl
  · rw [if_pos e, sum_Fs pts e]
    have lr := lr_sum (rg_mem2.mp hp) (rg_mem2.mp hq) e
    congr 1
    omega
theorem id_rt {pts : List Pt} (g : Gp pts) (h : pts.length ≤ 10) : S (List.range (pts.length - 1)) (fun j => ((pts.length - 2 - j) * (pts.length - 2 - j) - (pts.length - 2 - j)) * TN pts j) + 2 * nI pts = 8 * (subsL pts.length 4).length := by
  rw [row_sum fun j => (pts.length - 2 - j) * (pts.length - 2 - j) - (pts.length - 2 - j), ← sum_rt g h]
  congr 1
  refine DC.S_congr fun p hp => DC.S_congr fun q hq => ?_
  by_cases e : p = q
  · subst e
    simp only [ne_eq, not_true_eq_false, if_false]
    refine ((DC.S_congr fun r _ => ?_).trans (DC.S_zero _)).symm
    refine (DC.S_congr fun s _ => ?_).trans (DC.S_zero _)
    exact if_neg fun z => z.1 rfl
  · rw [if_pos e]
    have lr := lr_sum (rg_mem2.mp hp) (rg_mem2.mp hq) e
    have := sum_Fr pts e
    rw [show pts.length - 2 - lN pts p q = rN pts p q by omega]
    omega
end K11

namespace K11
open PySem PySem.Spec PyProof.Rows L2 Evl EB PySem.W
/-! ### the pairs, in order -/
theorem asc_eq : ∀ {xs ys : List Int}, (∀ x, x ∈ xs ↔ x ∈ ys) → xs.Pairwise (· < ·) → ys.Pairwise (· < ·) → xs = ys
  | [], [], _, _, _ => rfl
  | [], y :: ys, h, _, _ => absurd ((h y).mpr List.mem_cons_self) (by simp)
  | x :: xs, [], h, _, _ => absurd ((h x).mp List.mem_cons_self) (by simp)
  | x :: xs, y :: ys, h, h1, h2 => by
    obtain ⟨a1, a2⟩ := List.pairwise_cons.mp h1
    obtain ⟨b1, b2⟩ := List.pairwise_cons.mp h2
    have e : x = y := by
      rcases List.mem_cons.mp ((h x).mp List.mem_cons_self) with z | z
      · exact z
      · rcases List.mem_cons.mp ((h y).mpr List.mem_cons_self) with w | w
        · exact w.symm
        · have := a1 y w
          have := b1 x z
          omega
    subst e
    rw [asc_eq (xs := xs) (ys := ys) (fun z => ⟨fun hz => by
      rcases List.mem_cons.mp ((h z).mp (List.mem_cons_of_mem _ hz)) with w | w
      · subst w
        have := a1 z hz
        omega
      · exact w, fun hz => by
      rcases List.mem_cons.mp ((h z).mpr (List.mem_cons_of_mem _ hz)) with w | w
      · subst w
        have := b1 z hz
        omega
      · exact w⟩) a2 b2]
theorem subs3_of {n : Nat} (h : n ≤ 10) {t : List Int} (h3 : t.length = 3) (asc : t.Pairwise (· < ·)) (hr : ∀ x ∈ t, 0 ≤ x ∧ x < n) : t ∈ subsL n 3 := by
  match t, h3 with
  | [a, b, c], _ =>
    simp at asc
    have ha := hr a (by simp)
    have hb := hr b (by simp)
    have hc := hr c (by simp)
    rw [subs3_eq n (by omega)]
    exact List.mem_flatMap.mpr ⟨a, rg_mem2.mpr ha, List.mem_flatMap.mpr ⟨b, mem_rg (by omega) (by omega), List.mem_map.mpr ⟨c, mem_rg (by omega) (by omega), rfl⟩⟩⟩
theorem subs4_of {n : Nat} (h : n ≤ 10) {a b c d : Int} (l1 : a < b) (l2 : b < c) (l3 : c < d) (ha : 0 ≤ a) (hd : d < n) : [a, b, c, d] ∈ subsL n 4 := by
  rw [subs4_eq n (by omega)]
  exact List.mem_flatMap.mpr ⟨a, rg_mem2.mpr ⟨ha, by omega⟩, List.mem_flatMap.mpr ⟨b, mem_rg (by omega) (by omega), List.mem_flatMap.mpr ⟨c, mem_rg (by omega) (by omega), List.mem_map.mpr ⟨d, mem_rg (by omega) (by omega), rfl⟩⟩⟩⟩
theorem subs3_ok : ∀ n : Nat, n < 11 → (subsL n 3).all (fun l => decide (l.length = 3) && decide (l.Pairwise (· < ·)) && l.all fun x => isNo x n) = true := by decide +kernel
theorem subs3_lt : ∀ n : Nat, n < 11 → (subsL n 3).Pairwise (· < ·) := by decide +kernel
theorem subs4_nd : ∀ n : Nat, n < 11 → (subsL n 4).Pairwise (· < ·) := by decide +kernel
theorem mem_prs {pts : List Pt} {t : List Int} {d : Int} : (t, d) ∈ prsI pts ↔ t ∈ subsL pts.length 3 ∧ d ∈ rg 0 pts.length ∧ inT pts t d = true := by
  unfold prsI
  rw [List.mem_flatMap]
  constructor
  · rintro ⟨t', h1, h2⟩
    obtain ⟨d', h3, h4⟩ := List.mem_map.mp h2
    obtain ⟨h5, h6⟩ := List.mem_filter.mp h3
    cases h4
    exact ⟨h1, h5, h6⟩
  · rintro ⟨h1, h2, h3⟩
    exact ⟨t, h1, List.mem_map.mpr ⟨d, List.mem_filter.mpr ⟨h2, h3⟩, rfl⟩⟩
theorem mem_pairs {pts : List Pt} {t : List Int} {d : Int} : (t, d) ∈ pairsI pts ↔ ∃ l ∈ subsL pts.length 4, inn pts l = some d ∧ t = rmI l d := by
  unfold pairsI
  rw [List.mem_flatMap]
  constructor
  · rintro ⟨l, h1, h2⟩
    refine ⟨l, h1, ?_⟩
    cases hi : inn pts l with
    | none => rw [hi] at h2; cases h2
    | some k =>
      rw [hi] at h2
      cases List.mem_singleton.mp h2
      exact ⟨rfl, rfl⟩
  · rintro ⟨l, h1, h2, rfl⟩
    exact ⟨l, h1, by rw [h2]; exact List.mem_singleton.mpr rfl⟩
theorem inn_is {pts : List Pt} (g : Gp pts) {a b c d : Int} (h : D4 pts a b c d) {k : Int} (hk : k ∈ [a, b, c, d]) (hp : inP pts [a, b, c, d] k = true) : inn pts [a, b, c, d] = some k := by
  cases hi : inn pts [a, b, c, d] with
  | none =>
    unfold inn at hi
    rw [List.find?_eq_none] at hi
    exact absurd hp (hi k hk)
  | some x => rw [inP_one g h x (List.mem_of_find?_eq_some hi) k hk (List.find?_some hi) hp]
theorem same_mem {pts : List Pt} (g : Gp pts) (hl : pts.length ≤ 10) (x : List Int × Int) : x ∈ pairsI pts ↔ x ∈ prsI pts := by
  obtain ⟨t, k⟩ := x
  rw [mem_pairs, mem_prs]
  constructor
  · rintro ⟨l, hm, hi, rfl⟩
    obtain ⟨f4, asc⟩ := subs4_four hl hm
    have hk := List.mem_of_find?_eq_some hi
    refine ⟨subs3_of hl (rm_three f4.1 f4.2.1 hk) (asc.filter _) (fun x hx => no_in (f4.2.2 x (rm_mem.mp hx).1)), rg_mem2.mpr (no_in (f4.2.2 k hk)), (show inP pts l k = true from List.find?_some hi)⟩
  · rintro ⟨ht, hk, hi⟩
    have o := List.all_eq_true.mp (subs3_ok pts.length (by omega)) t ht
    simp only [Bool.and_eq_true, decide_eq_true_eq, List.all_eq_true] at o
    obtain ⟨⟨o1, o2⟩, o3⟩ := o
    have nk : k ∉ t := fun z => by
      unfold inT at hi
      have : t.contains k = true := by simpa using z
      rw [this] at hi
      cases hi
    have hk2 := rg_mem2.mp hk
    have nd : (k :: t).Nodup := List.nodup_cons.mpr ⟨nk, List.nodup_iff_pairwise_ne.mpr (o2.imp fun {a b} h z => by omega)⟩
    have hr : ∀ x ∈ k :: t, inR2 pts x := fun x hx => by
      rcases List.mem_cons.mp hx with rfl | q
      · exact hk2
      · exact no_in (o3 x q)
    obtain ⟨a, b, c, d, es, h4, l1, l2, l3⟩ := srt4 (l := k :: t) (by rw [List.length_cons, o1]) nd hr
    have pm : [a, b, c, d].Perm (k :: t) := es ▸ srt_perm (k :: t)
    have hk4 : k ∈ [a, b, c, d] := pm.mem_iff.mpr List.mem_cons_self
    have asc4 : [a, b, c, d].Pairwise (· < ·) := by
      simp
      omega
    have et : t = rmI [a, b, c, d] k := asc_eq (fun x => by
      rw [rm_mem, pm.mem_iff, List.mem_cons]
      constructor
      · exact fun hx => ⟨.inr hx, fun z => nk (z ▸ hx)⟩
      · rintro ⟨h1 | h1, h2⟩
        · exact absurd h1 h2
        · exact h1) o2 (asc4.filter _)
    refine ⟨[a, b, c, d], subs4_of hl l1 l2 l3 h4.ra.1 h4.rd.2, inn_is g h4 hk4 ?_, et⟩
    unfold inP
    rw [← et]
    exact hi
/-! ### the order that sorted keeps -/
theorem eqv_ints : ∀ xs ys : List Int, PyData.eqvAll (xs.map .int) (ys.map .int) = decide (xs = ys)
  | [], [] => by simp [PyData.eqvAll]
  | [], y :: ys => by simp [PyData.eqvAll]
  | x :: xs, [] => by simp [PyData.eqvAll]
  | x :: xs, y :: ys => by
    rw [List.map_cons, List.map_cons, PyData.eqvAll, eqv_ints xs ys]
    by_cases h : x = y
    · subst h
      simp [PyData.eqv]
    · simp [PyData.eqv, h]
theorem eqv_tupI (xs ys : List Int) : PyData.eqv (tupI xs) (tupI ys) = decide (xs = ys) := by
  unfold tupI
  rw [PyData.eqv]
  exact eqv_ints xs ys
theorem alike_tI (x y : List Int) : alike (tupI x) (tupI y) = true := by
  unfold tupI
  rw [alike]
  exact alike_ints x y
theorem dLt_encP (x y : List Int × Int) : dLt (encP x) (encP y) = if x.1 = y.1 then decide (x.2 < y.2) else decide (x.1 < y.1) := by
  have e := dataLt_pair (alike_tI x.1 y.1) (show alike (.int x.2) (.int y.2) = true by simp [alike])
  refine Eq.trans e ?_
  rw [eqv_tupI, dataLt_int]
  by_cases h : x.1 = y.1
  · rw [if_pos (by simpa using h), if_pos h]
    by_cases h2 : x.2 = y.2
    · simp [PyData.eqv, h2]
    · simp [PyData.eqv, h2]
  · rw [if_neg (by simpa using h), if_neg h]
    exact dLt_tupI x.1 y.1
theorem prs_asc {pts : List Pt} (hl : pts.length ≤ 10) : (prsI pts).Pairwise fun x y => dLt (encP x) (encP y) = true := by
  unfold prsI
  rw [List.pairwise_flatMap]
  refine ⟨fun t ht => List.pairwise_map.mpr ?_, (subs3_lt pts.length (by omega)).imp fun {t1 t2} h x hx y hy => ?_⟩
  · refine List.Pairwise.imp ?_ (List.Pairwise.filter _ (show (rg 0 pts.length).Pairwise (· < ·) from ?_))
    · intro a b h
      rw [dLt_encP, if_pos rfl]
      exact decide_eq_true h
    · unfold rg
      exact List.pairwise_map.mpr (List.pairwise_lt_range.imp fun {i j} h => by omega)
  · obtain ⟨d1, _, rfl⟩ := List.mem_map.mp hx
    obtain ⟨d2, _, rfl⟩ := List.mem_map.mp hy
    rw [dLt_encP, if_neg]
    · exact decide_eq_true h
    · intro z
      have z2 : t1 = t2 := z
      subst z2
      exact absurd h (List.lt_irrefl _)
theorem dLt_irr (x : PyData) : dLt x x = false := lex_irrefl (O := itemOrd) _
theorem prs_nd {pts : List Pt} (hl : pts.length ≤ 10) : (prsI pts).Nodup := List.nodup_iff_pairwise_ne.mpr ((prs_asc hl).imp fun {x y} h z => by
  subst z
  rw [dLt_irr] at h
  cases h)
theorem pairs_nd {pts : List Pt} (hl : pts.length ≤ 10) : (pairsI pts).Nodup := by
  unfold pairsI
  refine List.nodup_iff_pairwise_ne.mpr ?_
  rw [List.pairwise_flatMap]
  refine ⟨fun l _ => ?_, List.Pairwise.imp_of_mem (fun {l1 l2} m1 m2 h x hx y hy e => ?_) (subs4_nd pts.length (by omega))⟩
  · cases inn pts l <;> simp
  · subst e
    cases i1 : inn pts l1 with
    | none => rw [i1] at hx; cases hx
    | some k1 =>
      cases i2 : inn pts l2 with
      | none => rw [i2] at hy; cases hy
      | some k2 =>
        rw [i1] at hx
        rw [i2] at hy
        have q1 := List.mem_singleton.mp hx
        have q2 := List.mem_singleton.mp hy
        rw [q1] at q2
        injection q2 with q3 q4
        subst q4
        have hk1 := List.mem_of_find?_eq_some i1
        have hk2 := List.mem_of_find?_eq_some i2
        have e : l1 = l2 := asc_eq (fun z => by
          by_cases hz : z = k1
          · subst hz
            exact ⟨fun _ => hk2, fun _ => hk1⟩
          · constructor
            · intro w
              have : z ∈ rmI l1 k1 := rm_mem.mpr ⟨w, hz⟩
              rw [q3] at this
              exact (rm_mem.mp this).1
            · intro w
              have : z ∈ rmI l2 k1 := rm_mem.mpr ⟨w, hz⟩
              rw [← q3] at this
              exact (rm_mem.mp this).1) (subs4_four hl m1).2 (subs4_four hl m2).2
        subst e
        exact absurd h (List.lt_irrefl _)
theorem pairs_perm {pts : List Pt} (g : Gp pts) (hl : pts.length ≤ 10) : (pairsI pts).Perm (prsI pts) := (List.perm_ext_iff_of_nodup (pairs_nd hl) (prs_nd hl)).mpr (same_mem g hl)
/-- sorted(pairs) -/
theorem je_pairs {K : PySem.W.Frag} {M : EC → Addr} {W : WX} {ps : Kn} {te : TE} {pts : List Pt} (g : Gp pts) (hl : pts.length ≤ 10) (h : JD K M W te ps (.list ((pairsI pts).map encP))) : JD K M W (tCB (rSortedD K) (tCons te tNil)) ps (.list ((prsI pts).map encP)) := by
  refine je_sortD h ((pairs_perm g hl).map _) (List.pairwise_map.mpr (prs_asc hl)) (AllAlike.of fun a b => ?_) (Sortable.tuples fun b => ⟨_, _, rfl⟩) (fun d hd => ?_)
  · unfold encP
    simp [alike, alikeAll, alike_tI]
  · obtain ⟨x, _, rfl⟩ := List.mem_map.mp hd
    have := depth_tupI x.1
    unfold encP tupI
    simp only [PyData.depth, PyData.depthAll]
    rw [depth_ints]
    decide
end K11

namespace K11
open PySem PySem.Spec PyProof.Rows L2 Evl EB PySem.W
open DC (S)
/-! ### the pairs hold -/
theorem js_allL {K : PySem.W.Frag} {M : EC → Addr} {W : WX} {ps : Kn} {vs : List Nat} {wi : TI} {g : TG} {tb : TS} {α : Type} (L : List α) (enc : α → PyData) (hi : JI K M W wi ps (L.map enc))
    (hs : ∀ x ∈ L, ∃ qs, JG vs g ps (dv K (enc x)) qs ∧ JS K M W tb qs (.nx ps)) : JS K M W (tFor wi g tb) ps (.nx ps) := by
  have := js_first (K := K) (M := M) (W := W) (g := g) (tb := tb) (vs := vs) L enc (fun _ => (none : Option Er)) Out.er hi fun x hx => by
    obtain ⟨qs, hg, hb⟩ := hs x hx
    exact ⟨qs, hg, hb⟩
  rw [List.findSome?_eq_none_iff.mpr (fun _ _ => rfl)] at this
  exact this
theorem prs_le {pts : List Pt} (g : Gp pts) (hl : pts.length ≤ 10) : (prsI pts).length ≤ 210 := by
  rw [← (pairs_perm g hl).length_eq]
  exact pairs_len hl
theorem sb_pairs {pts : List Pt} (g : Gp pts) (hl : pts.length ≤ 10) : Sb (.list ((prsI pts).map encP)) 4 100000 := by
  have h1 : ∀ d ∈ (prsI pts).map encP, Sb d 3 404 := fun d hd => by
    obtain ⟨⟨t, k⟩, hx, rfl⟩ := List.mem_map.mp hd
    obtain ⟨ht, hk, _⟩ := mem_prs.mp hx
    have o := List.all_eq_true.mp (subs3_ok pts.length (by omega)) t ht
    simp only [Bool.and_eq_true, decide_eq_true_eq, List.all_eq_true] at o
    obtain ⟨⟨o1, o2⟩, o3⟩ := o
    have s1 : Sb (tupI t) 2 201 := by
      have := sb_tup (n := 1) (w := 66) (ds := t.map .int) fun d hd => by
        obtain ⟨x, hx, rfl⟩ := List.mem_map.mp hd
        have := no_in (o3 x hx)
        unfold inR2 at this
        exact sb_int ⟨by omega, by omega⟩
      refine Sb.up this (Nat.le_refl _) ?_
      rw [List.length_map, o1]
      decide
    have hk2 := rg_mem hk
    have s2 : Sb (.int k) 2 201 := Sb.up (sb_int ⟨by omega, by omega⟩) (by decide) (by decide)
    exact sb_tup (n := 2) (w := 201) (ds := [tupI t, .int k]) fun d hd => by
      simp only [List.mem_cons, List.not_mem_nil, or_false] at hd
      rcases hd with rfl | rfl
      · exact s1
      · exact s2
  have h2 := sb_lst h1
  refine Sb.up h2 (Nat.le_refl _) ?_
  rw [List.length_map]
  have := prs_le g hl
  omega
def args__law_pairs_hold {K : PySem.W.Frag} {mg : Str → Option Value} (T : Tx K mg) : List Pt → List PV := fun a => [ob1 K T.a_Floor "points" (.tuple (a.map pD)), dv K (.list ((pairsI a).map encP))]
def dom__law_pairs_hold : List Pt → Prop := fun a => (∀ p ∈ a, near p) ∧ a.length ≤ 10 ∧ Gp a
def out__law_pairs_hold {K : PySem.W.Frag} {mg : Str → Option Value} (T : Tx K mg) : List Pt → Out := fun _ => .ok (dv K (.bool true))
theorem ok__law_pairs_hold {P : Program} {w : World} {K : PySem.W.Frag} {mg : Str → Option Value} {base : Heap} (T : Tx K mg) : FnG P w K mg base (L2.CX P w) 5 T.a__law_pairs_hold T.fd__law_pairs_hold ["floor", "pairs"] (Prm K T.M (args__law_pairs_hold T) dom__law_pairs_hold (out__law_pairs_hold T)) := by
  refine okG T.F__law_pairs_hold sc__law_pairs_hold (fun vs H Q E h => by obtain ⟨a, F, _, al, _⟩ := h; exact al.length) (fun cdv A outer s H vs Q E hr h => ?_)
  have tk : Takes (cxOf (L2.CX P w) P w K mg base N__law_pairs_hold "_law_pairs_hold" (defScope s__law_pairs_hold) T.a__law_pairs_hold cdv A outer s H E) (fun cls d _ H => E cls d H) := takes_of rfl rfl rfl rfl
  obtain ⟨a, F, fh, al, hd, th⟩ := h
  refine ⟨_, (pss_cons (ps_for (passes_of rfl) rfl (pi_range1 (by rfl) T.z_range (pa_cons pe_int pa_nil)) (pg_name (i := 2) sc__law_pairs_hold.nd rfl (by first | exact Or.inl rfl | exact Or.inr rfl)) (pss_cons (ps_set (i := 3) sc__law_pairs_hold.nd rfl (by first | exact Or.inl rfl | exact Or.inr rfl) (pe_callS (ok_inner_pairs T) (hr.rm.mono (by decide)) (by rfl) T.g_inner_pairs T.F_inner_pairs.kp (b_inner_pairs T) (fun σ => passAt tk σ) (pa_cons (pv 0) pa_nil)))
      (pss_cons (ps_if (PW.pt (pw_or (pt_not (pt_val (pe_callB call_isi (by rfl) T.z_isinstance PyProof.Rows.boot_isinstance (pa_cons (pv 3) (pa_cons (pe_bltn (v := .ty "list") (by rfl) T.z_list PyProof.Rows.boot_list rfl) pa_nil))))) (pw_or1 (pt_cmpR op_ne (pe_callB (cr_repr hr) (by rfl) T.z_repr (by decide +kernel) (pa_cons (pv 3) pa_nil)) (pe_callB (cr_repr hr) (by rfl) T.z_repr (by decide +kernel) (pa_cons (pe_callB (cr_sortedD hr.rm) (by rfl) T.z_sorted (by decide +kernel) (pa_cons (pv 1) pa_nil)) pa_nil)) (nomark _))))) (pss_one (ps_ret pe_bl)) pss_nil)
      (pss_cons (ps_expr (pe_bm PySem.F.plainAttrs_list PySem.F.slot_list_append PySem.F.type_list_append mt_append (pv 3) (pa_cons (pe_tup (pa_cons (pe_tup (pa_cons pe_int (pa_cons pe_int (pa_cons pe_int pa_nil)))) (pa_cons pe_int pa_nil))) pa_nil)))
      (pss_one (ps_expr (pe_bm0 PySem.F.plainAttrs_list PySem.F.slot_list_reverse PySem.F.type_list_reverse mt_reverse (pv 3))))))))
      (pss_one (ps_ret pe_bl))), ?_⟩
  obtain ⟨hn, hl, g⟩ := hd
  let W0 : WX := fun cls d _ H => E cls d H
  have sb := sb_pairs g hl
  have lp := prs_le g hl
  refine fin_ok (K := K) (M := T.M) (r := .rt (dv K (.bool true))) (js_seq (js_allL (vs := [2]) (rg 0 2) .int (ji_upto (n := 2) (je_int (i := 2)) (by decide)) fun k hk => ⟨_, jg_name, ?_⟩) (js_ret je_bl)) (by exact rfl) fh al th
  refine js_ownNx (i := 3) (ds := (prsI a).map encP) (es := ((prsI a).map encP ++ [PyData.tuple [PyData.tuple [.int 0, .int 1, .int 2], .int 3]]).reverse) (jn_call (M := T.M) (W := W0) (args := args_inner_pairs T) (dom := dom_inner_pairs) (out := out_inner_pairs) a (ja_cons (je_var (i := 0) rfl) ja_nil) ⟨hl, hn⟩) fun D F1 H1 hD => ?_
  refine jl_weak (jl_seq (jl_ifR (i := 3) (b := false) rfl (jt_is (jt_or (jt_not (jt_B (je_isL (je_var (i := 3) rfl) rfl))) fun _ => jt_test (je_neS (je_reprB (je_var (i := 3) rfl) (.inl ⟨_, rfl⟩) sb) (je_reprB (je_pairs g hl (je_var (i := 1) rfl)) (.inl ⟨_, rfl⟩) sb))) ?_) (fun z => Bool.noConfusion z) (fun _ => jl_js js_next))
    (jl_seq (jl_app (i := 3) (d := .tuple [.tuple [.int 0, .int 1, .int 2], .int 3]) rfl hD (ja_cons (je_tup (ds := [.tuple [.int 0, .int 1, .int 2], .int 3]) (ja_cons (je_tup (ds := [.int 0, .int 1, .int 2]) (ja_cons je_int (ja_cons je_int (ja_cons je_int ja_nil)))) (ja_cons je_int ja_nil))) ja_nil) (by rw [List.length_map]; omega)) (jl_rev (i := 3) rfl hD))) ⟨.inr rfl, .inr rfl, .inl rfl, .inl rfl, trivial⟩
  rw [decide_eq_true rfl]
  rfl
/-! ### the counts hold -/
theorem mapInt_inj : ∀ {xs ys : List Int}, xs.map PyData.int = ys.map .int → xs = ys
  | [], [], _ => rfl
  | [], _ :: _, h => by cases h
  | _ :: _, [], h => by cases h
  | x :: xs, y :: ys, h => by
    rw [List.map_cons, List.map_cons] at h
    injection h with h1 h2
    injection h1 with h3
    rw [h3, mapInt_inj h2]
theorem rowPi_T {pts : List Pt} (g : Gp pts) : rowPi pts = (List.range (pts.length - 1)).map fun (j : Nat) => ((TN pts j : Nat) : Int) := by
  refine mapInt_inj ?_
  rw [← rowP_pi, rowP_eq g.nd]
  unfold rowN
  rw [List.map_map]
  refine List.map_congr_left fun j _ => ?_
  show PyData.int _ = PyData.int _
  rw [T_TN g]
theorem rowPi_at {pts : List Pt} (g : Gp pts) {j : Nat} (h : j < pts.length - 1) : (rowPi pts).getD j 0 = ((TN pts j : Nat) : Int) := by
  rw [rowPi_T g, List.getD_eq_getElem?_getD, List.getElem?_map, List.getElem?_range h]
  rfl
theorem sum_cast {α : Type} (l : List α) (f : α → Nat) : (l.map fun x => ((f x : Nat) : Int)).sum = ((S l f : Nat) : Int) := by
  induction l with
  | nil => rfl
  | cons a r ih =>
    rw [List.map_cons, List.sum_cons, ih, DC.S_cons]
    omega
theorem comb42 : ∀ n : Nat, n < 11 → mcComb (n : Int) 4 = ((subsL n 4).length : Int) := by decide +kernel
theorem comb2 : ∀ m : Nat, m < 11 → 2 * mcComb (m : Int) ((1 + 1 : Nat) : Int) = ((m * m - m : Nat) : Int) := by decide +kernel
theorem cfI_eq {pts : List Pt} (g : Gp pts) (hl : pts.length ≤ 10) : cfI pts = ((subsL pts.length 4).length : Int) - (nI pts : Int) := by
  unfold cfI
  rw [comb42 _ (by omega), ← (pairs_perm g hl).length_eq, pairs_nI]
def totI (pts : List Pt) : Int := ((List.range (pts.length - 1)).map fun (j : Nat) => (j : Int) * ((pts.length : Int) - 2 - (j : Int)) * (rowPi pts).getD j 0).sum
theorem sum_map_congr {α : Type} {l : List α} {f h : α → Int} (e : ∀ x ∈ l, f x = h x) : (l.map f).sum = (l.map h).sum := by
  rw [List.map_congr_left e]
theorem totI_eq {pts : List Pt} (g : Gp pts) (hl : pts.length ≤ 10) : totI pts = 4 * ((subsL pts.length 4).length : Int) + 2 * (nI pts : Int) := by
  have e : totI pts = ((S (List.range (pts.length - 1)) (fun j => (j * (pts.length - 2 - j)) * TN pts j) : Nat) : Int) := by
    rw [← sum_cast]
    refine sum_map_congr fun j hj => ?_
    have := List.mem_range.mp hj
    rw [rowPi_at g this, Int.natCast_mul, Int.natCast_mul]
    congr 2
    omega
  rw [e, id_sep g hl]
  omega
theorem caI_eq {pts : List Pt} (g : Gp pts) (hl : pts.length ≤ 10) : caI (rowPi pts) 1 + (nI pts : Int) = 4 * ((subsL pts.length 4).length : Int) := by
  have rl := rowPi_len (pts := pts)
  have e : 2 * caI (rowPi pts) 1 = ((S (List.range (pts.length - 1)) (fun j => ((pts.length - 2 - j) * (pts.length - 2 - j) - (pts.length - 2 - j)) * TN pts j) : Nat) : Int) := by
    rw [← sum_cast]
    unfold caI
    rw [rl]
    have two : ∀ l : List Int, 2 * l.sum = (l.map fun x => 2 * x).sum := fun l => by
      induction l with
      | nil => rfl
      | cons a r ih =>
        rw [List.map_cons, List.sum_cons, List.sum_cons, ← ih]
        omega
    rw [two, List.map_map]
    refine sum_map_congr fun j hj => ?_
    have hj2 := List.mem_range.mp hj
    have c := comb2 (pts.length - 2 - j) (by omega)
    show 2 * ((rowPi pts).getD j 0 * mcComb ((pts.length - 1 - 1 - j : Nat) : Int) ((1 + 1 : Nat) : Int)) = _
    rw [rowPi_at g hj2, Int.natCast_mul, ← c, show pts.length - 1 - 1 - j = pts.length - 2 - j by omega]
    generalize mcComb ((pts.length - 2 - j : Nat) : Int) ((1 + 1 : Nat) : Int) = m
    generalize ((TN pts j : Nat) : Int) = t
    grind
  have := id_rt g hl
  omega
def args__law_counts_hold {K : PySem.W.Frag} {mg : Str → Option Value} (T : Tx K mg) : List Pt → List PV := fun a => [ob1 K T.a_Floor "points" (.tuple (a.map pD)), dv K (.int a.length), dv K (.int (subsL a.length 4).length), dv K (.int (((subsL a.length 4).length : Int) - (nI a : Int)))]
def dom__law_counts_hold : List Pt → Prop := fun a => (∀ p ∈ a, near p) ∧ a.length ≤ 10 ∧ 3 ≤ a.length ∧ Gp a
def out__law_counts_hold {K : PySem.W.Frag} {mg : Str → Option Value} (T : Tx K mg) : List Pt → Out := fun _ => .ok (dv K (.bool true))
theorem fo_le : ∀ n : Nat, n < 11 → (subsL n 4).length ≤ 210 := subs4_len
theorem ok__law_counts_hold {P : Program} {w : World} {K : PySem.W.Frag} {mg : Str → Option Value} {base : Heap} (T : Tx K mg) : FnOk P w K mg base (L2.CX P w) 9 T.a__law_counts_hold T.fd__law_counts_hold ["floor", "many", "fours", "count"] (Prm K T.M (args__law_counts_hold T) dom__law_counts_hold (out__law_counts_hold T)) := by
  refine T.F__law_counts_hold.okX sc__law_counts_hold (fun vs H Q E h => by obtain ⟨a, F, _, al, _⟩ := h; exact al.length) (fun cdv A outer s H vs Q E hr h => ?_)
  have tk : Takes (cxOf (L2.CX P w) P w K mg base N__law_counts_hold "_law_counts_hold" (defScope s__law_counts_hold) T.a__law_counts_hold cdv A outer s H E) (fun cls d _ H => E cls d H) := takes_of rfl rfl rfl rfl
  obtain ⟨a, F, fh, al, hd, th⟩ := h
  refine ⟨_, (pss_cons (ps_for (passes_of rfl) rfl (pi_range1 (by rfl) T.z_range (pa_cons pe_int pa_nil)) (pg_name (i := 4) sc__law_counts_hold.nd rfl (by first | exact Or.inl rfl | exact Or.inr rfl)) (pss_cons (ps_set (i := 5) sc__law_counts_hold.nd rfl (by first | exact Or.inl rfl | exact Or.inr rfl) (pe_callS (ok_convex_fours T) (hr.mono (by decide)) (by rfl) T.g_convex_fours T.F_convex_fours.kp (b_convex_fours T) (fun σ => passAt tk σ) (pa_cons (pv 0) pa_nil)))
      (pss_one (ps_if (PW.pt (pw_or (pt_not (pt_val (pe_callS (ok__law_whole T) (hr.mono (by decide)) (by rfl) T.g__law_whole T.F__law_whole.kp (b__law_whole T) (fun σ => passAt tk σ) (pa_cons (pv 5) pa_nil)))) (pw_or1 (pt_cmpR op_ne (pv 5) (pv 3) (nomark _))))) (pss_one (ps_ret pe_bl)) pss_nil))))
      (pss_cons (ps_set (i := 6) sc__law_counts_hold.nd rfl (by first | exact Or.inl rfl | exact Or.inr rfl) (pe_callS (ok_line_row T) (hr.mono (by decide)) (by rfl) T.g_line_row T.F_line_row.kp (b_line_row T) (fun σ => passAt tk σ) (pa_cons (pv 0) pa_nil)))
      (pss_cons (ps_if (PW.pt (pw_or (pt_not (pt_val (pe_callB call_isi (by rfl) T.z_isinstance PyProof.Rows.boot_isinstance (pa_cons (pv 6) (pa_cons (pe_bltn (v := .ty "list") (by rfl) T.z_list PyProof.Rows.boot_list rfl) pa_nil))))) (pw_or1 (pt_cmpR op_ne (pe_callB call_len_seq (by rfl) T.z_len PySem.boot_len (pa_cons (pv 6) pa_nil)) (pe_op op_sub (pv 1) pe_int) (nomark _))))) (pss_one (ps_ret pe_bl)) pss_nil)
      (pss_cons (ps_set (i := 7) sc__law_counts_hold.nd rfl (by first | exact Or.inl rfl | exact Or.inr rfl) (pe_callB (cr_sum rfl) (by rfl) T.z_sum (by decide +kernel) (pa_cons (pe_lc (own := [("j", 8)]) (g := (gName 8)) (tt := tYes) (te := (tOp (rI CMul fun i j => .int (i * j)) (tOp (rI CMul fun i j => .int (i * j)) (tVar 8) (tOp (rI0 fun i j => .int (i - j)) (tOp (rI0 fun i j => .int (i - j)) (tVar 1) (tC (.int 2))) (tVar 8))) (tOp (rIxL K) (tVar 6) (tVar 8)))) rfl sc__law_counts_hold.nd (pi_range1 (by rfl) T.z_range (pa_cons (pe_op op_sub (pv 1) pe_int) pa_nil)) (blkOk_by (N := N__law_counts_hold) (sc := defScope s__law_counts_hold) (own := [("j", 8)]) (by decide +kernel)) (fun _ _ _ _ _ => (pg_name (i := 8) sc__law_counts_hold.nd rfl (by first | exact Or.inl rfl | exact Or.inr rfl))) (fun _ _ _ _ _ => by exact pts_nil) (fun _ _ _ _ _ => by exact (pe_op op_mul (pe_op op_mul (pv 8) (pe_op op_sub (pe_op op_sub (pv 1) pe_int) (pv 8))) (pe_ix ix_list (pv 6) (pv 8) (fun _ _ => rfl))))) pa_nil)))
      (pss_cons (ps_if (pt_cmpR op_ne (pe_op op_mul pe_int (pv 3)) (pe_op op_sub (pe_op op_mul pe_int (pv 2)) (pv 7)) (nomark _)) (pss_one (ps_ret pe_bl)) pss_nil)
      (pss_one (ps_ret (pe_or (pe_cmpR op_eq (pv 1) pe_int (nomark _)) (pe_one (pe_cmpR op_eq (pe_ix ix_list (pe_callS (ok_corner_row T) (hr.mono (by decide)) (by rfl) T.g_corner_row T.F_corner_row.kp (b_corner_row T) (fun σ => passAt tk σ) (pa_cons (pv 0) pa_nil)) pe_int (fun _ _ => rfl)) (pe_op op_add (pe_op op_mul pe_int (pv 2)) (pv 3)) (nomark _))))))))))), ?_⟩
  obtain ⟨hn, hl, h3, g⟩ := hd
  let W0 : WX := fun cls d _ H => E cls d H
  have hf := fo_le a.length (by omega)
  have hni : nI a ≤ 210 := by
    rw [← pairs_nI]
    exact pairs_len hl
  have rl := rowPi_len (pts := a)
  have ec := cfI_eq g hl
  have et := totI_eq g hl
  have ea := caI_eq g hl
  let ct : Int := ((subsL a.length 4).length : Int) - (nI a : Int)
  have hcf : ∀ ps : Kn, ps[0]? = some (some (ob1 K T.a_Floor "points" (.tuple (a.map pD)))) → JD K T.M W0 (tCallS (Prm K T.M (args_convex_fours T) dom_convex_fours (out_convex_fours T)) (WE W0) (tCons (tVar 0) tNil)) ps (.int ct) := fun ps h => by
    have := je_call (K := K) (M := T.M) (W := W0) (ps := ps) (args := args_convex_fours T) (dom := dom_convex_fours) (out := out_convex_fours T) a (ja_cons (je_var (i := 0) h) ja_nil) ⟨hl, hn⟩
    have e : out_convex_fours T a = .ok (dv K (.int ct)) := by
      unfold out_convex_fours
      rw [ec]
    rw [e] at this
    exact this
  have hrow : ∀ ps : Kn, ps[0]? = some (some (ob1 K T.a_Floor "points" (.tuple (a.map pD)))) → JD K T.M W0 (tCallS (PrmN K (args_line_row T) dom_line_row out_line_row) (WE W0) (tCons (tVar 0) tNil)) ps (.list ((rowPi a).map .int)) := fun ps h => by
    have := jn_told (K := K) (M := T.M) (W := W0) (jn_call (K := K) (M := T.M) (W := W0) (ps := ps) (E := WE W0) (args := args_line_row T) (dom := dom_line_row) (out := out_line_row) a (ja_cons (je_var (i := 0) h) ja_nil) ⟨⟨hl, hn⟩, by omega⟩)
    have eo : out_line_row a = (rowPi a).map .int := rowP_pi a
    rw [eo] at this
    exact this
  have hcr : ∀ ps : Kn, ps[0]? = some (some (ob1 K T.a_Floor "points" (.tuple (a.map pD)))) → JD K T.M W0 (tCallS (PrmN K (args_corner_row T) dom_corner_row out_corner_row) (WE W0) (tCons (tVar 0) tNil)) ps (.list (caD (rowPi a))) := fun ps h => jn_told (K := K) (M := T.M) (W := W0) (jn_call (K := K) (M := T.M) (W := W0) (ps := ps) (E := WE W0) (args := args_corner_row T) (dom := dom_corner_row) (out := out_corner_row) a (ja_cons (je_var (i := 0) h) ja_nil) ⟨⟨⟨hl, hn⟩, by omega⟩, h3⟩)
  have rs : ∀ x ∈ rowPi a, smE x := rowPi_sm hl
  have atC : decide ((a.length : Int) = 3) = false → atI (caD (rowPi a)) ((1 : Nat) : Int) = some (.int (caI (rowPi a) 1)) := fun z => by
    have z2 := of_decide_eq_false z
    refine atI_nat ?_
    unfold caD
    rw [List.getElem?_map, List.getElem?_range (by omega)]
    rfl
  refine fin_ok (K := K) (M := T.M) (Ps := args__law_counts_hold T a) (r := .rt (dv K (.bool true))) (js_seq (js_allL (vs := [4]) (rg 0 2) .int (ji_upto (n := 2) (je_int (i := 2)) (by decide)) fun k hk => ⟨_, jg_name, js_weak (js_seq (js_set (i := 5) (P := dv K (.int ct)) (hcf _ rfl)) (js_if (b := false) (jt_is (jt_or (jt_not (jt_B (je_call (args := args__law_whole T) (dom := dom__law_whole) (out := out__law_whole T) ct (ja_cons (je_var (i := 5) rfl) ja_nil) trivial))) fun _ => jt_test (je_neI (je_var (i := 5) rfl) (je_var (i := 3) rfl))) ?w) (fun z => Bool.noConfusion z) (fun _ => js_next))) ⟨.inr rfl, .inr rfl, .inr rfl, .inr rfl, .inl rfl, .inl rfl, .inr rfl, .inr rfl, .inr rfl, trivial⟩⟩)
    (js_seq (js_set (i := 6) (P := dv K (.list ((rowPi a).map .int))) (hrow _ rfl))
    (js_seq (js_if (b := false) (jt_is (jt_or (jt_not (jt_B (je_isL (je_var (i := 6) rfl) rfl))) fun _ => jt_test (je_neI (je_lenL (je_var (i := 6) rfl)) (je_sub (je_var (i := 1) rfl) je_int))) ?l) (fun z => Bool.noConfusion z) (fun _ => js_next))
    (js_seq (js_set (i := 7) (P := dv K (.int (totI a))) ?tot)
    (js_seq (js_if (b := false) (jt_is (jt_test (je_neI (je_mul je_int (je_var (i := 3) rfl) (near_mul (by omega))) (je_sub (je_mul je_int (je_var (i := 2) rfl) (near_mul (by omega))) (je_var (i := 7) rfl)))) ?eq) (fun z => Bool.noConfusion z) (fun _ => js_next))
    (js_ret (je_is (je_orV (a := decide ((a.length : Int) = 3)) (b := true) (je_eqI (je_var (i := 1) rfl) je_int) fun z => je_is (je_eqI (je_ixL (hcr _ rfl) (je_int (i := ((1 : Nat) : Int))) (atC z)) (je_add (je_mul je_int (je_var (i := 2) rfl) (near_mul (by omega))) (je_var (i := 3) rfl))) ?ce) (by simp)))))))) (by exact rfl) fh al th
  case w =>
    show (!true || !decide (ct = ct)) = false
    rw [decide_eq_true rfl]
    rfl
  case l =>
    rw [List.length_map, rl, decide_eq_true (by omega)]
    rfl
  case tot =>
    refine je_sum (ns := (List.range (a.length - 1)).map fun (j : Nat) => (j : Int) * ((a.length : Int) - 2 - (j : Int)) * (rowPi a).getD j 0) (je_is (je_lc (vs := [8]) (W' := fun _ _ _ _ => False) (List.range (a.length - 1)) (fun (j : Nat) => .int (j : Int)) (fun _ => true) (fun (j : Nat) => .int ((j : Int) * ((a.length : Int) - 2 - (j : Int)) * (rowPi a).getD j 0)) (ji_uptoN (je_is (je_sub (je_var (i := 1) rfl) je_int) (by congr 1; omega)) (by omega)) (by rw [List.length_range]; omega) fun j hj => ⟨_, jg_name, jt_yes, fun _ => ?_⟩) ?_)
    · have j9 := List.mem_range.mp hj
      have s := sm_getD rs j
      unfold smE at s
      have b1 : ((j : Int) * ((a.length : Int) - 2 - (j : Int))) ≤ 100 ∧ 0 ≤ (j : Int) * ((a.length : Int) - 2 - (j : Int)) := by
        constructor
        · have : (j : Int) * ((a.length : Int) - 2 - (j : Int)) ≤ 10 * 10 := Int.mul_le_mul (by omega) (by omega) (by omega) (by omega)
          omega
        · exact Int.mul_nonneg (by omega) (by omega)
      exact je_mul (je_mul (je_var (i := 8) rfl) (je_sub (je_sub (je_var (i := 1) rfl) je_int) (je_var (i := 8) rfl)) (near_mul (by omega))) (je_ixL (je_var (i := 6) rfl) (je_var (i := 8) rfl) (at_getD (by omega))) (near_mul (by omega))
    · rw [filter_yes, List.map_map]
      rfl
  case eq =>
    rw [decide_eq_true (by omega)]
    rfl
  case ce =>
    exact congrArg PyData.bool (decide_eq_true (by omega))
end K11

namespace K11
open PySem PySem.Spec PyProof.Rows L2 Evl EB PySem.W
def sp_law (K : PySem.W.Frag) : Sp := fun vs H Q _ => ∃ (a : Addr) (ns : List Int), vs = [.ref a] ∧ SqL K H a (ns.map V.int) ∧ ns.length ≤ 63 ∧ ∀ H', Q (.bl true) H'
theorem sp_start {K : PySem.W.Frag} {H : Hp} {a : Addr} {ns : List Int} (hl : ns.length ≤ 63) (hS : SqL K H a (ns.map V.int)) : sp_law K [.ref a] H (fun v _ => v = .bl true) fun _ _ _ => False := ⟨a, ns, rfl, hS, hl, fun _ => rfl⟩
def mAt (menu : List Int) (i : Int) : Int := menu.getD i.toNat 0
theorem at_mod {menu : List Int} (h : 0 < menu.length) (c : Int) : atI (menu.map PyData.int) (c % menu.length) = some (.int (mAt menu (c % menu.length))) := by
  have h1 : 0 ≤ c % (menu.length : Int) := Int.emod_nonneg _ (by omega)
  have h2 : c % (menu.length : Int) < menu.length := Int.emod_lt_of_pos _ (by omega)
  generalize c % (menu.length : Int) = i at h1 h2
  obtain ⟨j, rfl⟩ := Int.eq_ofNat_of_zero_le h1
  have h3 : j < menu.length := by omega
  refine atI_nat ?_
  rw [List.getElem?_map, List.getElem?_eq_getElem h3]
  unfold mAt
  simp [h3]
def sizes : List Int := [5, 4, 6, 7, 3, 8, 9, 10]
def mny (c : Int) : Nat := (mAt sizes (c % 8)).toNat
theorem sizes_b : ∀ j : Nat, j < 8 → 3 ≤ mAt sizes (j : Nat) ∧ mAt sizes (j : Nat) ≤ 10 := by decide
theorem mny_b (c : Int) : (3 ≤ mny c ∧ mny c ≤ 10) ∧ (mny c : Int) = mAt sizes (c % 8) := by
  have h1 : 0 ≤ c % 8 := by omega
  have h2 : c % 8 < 8 := by omega
  unfold mny
  generalize c % 8 = i at h1 h2
  obtain ⟨j, rfl⟩ := Int.eq_ofNat_of_zero_le h1
  have h3 := sizes_b j (by omega)
  generalize mAt sizes (j : Int) = x at h3
  omega
def PP (ns : List Int) : List (Int × Int) := ptsL ns (mny (cell ns 0)) (decide (2 < cell ns 0 / 8 % 5))
theorem PP_len (ns : List Int) : (PP ns).length = mny (cell ns 0) := by
  unfold PP ptsL
  rw [List.length_map, List.length_range]
theorem PP_small (ns : List Int) : ∀ p ∈ PP ns, small p := small_pts (mny_b _).1.2
theorem small_near {p : Int × Int} (h : small p) : near p := by
  obtain ⟨⟨h1, h2⟩, h3, h4⟩ := h
  exact ⟨⟨by omega, by omega⟩, by omega, by omega⟩
theorem js_run {K : PySem.W.Frag} {M : EC → Addr} {W : WX} {ts : TS} {ps : Kn} {r : Res} {D : Ends} {σ : L2.St} {F H : Hp} (h : JS K M W ts ps r) (fh : Ex F H) (S : Sl F σ ps) (k : Wsh K M W ps.length D F H r) : ts D σ H := h D σ F H fh S k
theorem floorE_parts {P : List (Int × Int)} (h : floorE P = none) : badPts P = none ∧ onLine P = none := by
  unfold floorE at h
  cases h1 : inR 3 P.length 10 with
  | false => rw [h1] at h; cases h
  | true =>
    rw [h1] at h
    cases h2 : badPts P with
    | some e => rw [h2] at h; cases h
    | none =>
      rw [h2] at h
      exact ⟨rfl, h⟩
def pk (ord l : List Int) : List Int := ord.map fun k => l.getD k.toNat 0
theorem at_in {l : List Int} {k : Int} (h : 0 ≤ k ∧ k < l.length) : atI (l.map PyData.int) k = some (.int (l.getD k.toNat 0)) := by
  have := at_getD (row := l) (m := k.toNat) (by omega)
  rw [show ((k.toNat : Nat) : Int) = k by omega] at this
  exact this
theorem dgL_len (c b : Int) : (dgL c b).length = 4 := by
  unfold dgL
  rw [List.length_map, List.length_range]
theorem dgL_in {c b k : Int} (h : 0 < b) (hk : k ∈ dgL c b) : 0 ≤ k ∧ k < b := by
  unfold dgL at hk
  obtain ⟨j, _, rfl⟩ := List.mem_map.mp hk
  exact ⟨Int.emod_nonneg _ (by omega), Int.emod_lt_of_pos _ h⟩
def menuL (n : Nat) : List Int := [0, (n : Int), (n : Int) - 1, 1, -1, (n : Int) + 10 ^ 30, 2]
theorem ok_law {P : Program} {w : World} {K : PySem.W.Frag} {mg : Str → Option Value} {base : Heap} (T : Tx K mg) : FnG P w K mg base CX0 11 T.a_law T.fd_law ["script"] (sp_law K) := by
  refine okG T.F_law sc_law (fun vs H Q E h => by obtain ⟨a, ns, rfl, _⟩ := h; rfl) (fun cdv A outer s H vs Q E hr h => ?_)
  refine ⟨_, (pss_cons (ps_set (i := 1) sc_law.nd rfl (by first | exact Or.inl rfl | exact Or.inr rfl) (pe_slice sl_list (pv 0) po_none (po_some pe_int)))
      (pss_cons (ps_set (i := 2) sc_law.nd rfl (by first | exact Or.inl rfl | exact Or.inr rfl) (pe_callS (ok__law_cell T) (hr.rm.mono (by decide)) (by rfl) T.g__law_cell T.F__law_cell.kp (b__law_cell T) (fun σ => passAt takes0 σ) (pa_cons (pv 1) (pa_cons pe_int pa_nil))))
      (pss_cons (ps_set (i := 3) sc_law.nd rfl (by first | exact Or.inl rfl | exact Or.inr rfl) (pe_ix ix_tup (pe_tup (pa_cons pe_int (pa_cons pe_int (pa_cons pe_int (pa_cons pe_int (pa_cons pe_int (pa_cons pe_int (pa_cons pe_int (pa_cons pe_int pa_nil))))))))) (pe_op op_mod (pe_callTy call_int1 (by rfl) T.z_int PyProof.Rows.boot_int (pa_cons (pv 2) pa_nil)) pe_int) (fun _ _ => rfl)))
      (pss_cons (ps_set (i := 4) sc_law.nd rfl (by first | exact Or.inl rfl | exact Or.inr rfl) (pe_callS (ok__law_drawn T) (hr.rm.mono (by decide)) (by rfl) T.g__law_drawn T.F__law_drawn.kp (b__law_drawn T) (fun σ => passAt takes0 σ) (pa_cons (pv 1) (pa_cons (pv 3) (pa_cons (pe_cmpR op_gt (pe_op op_mod (pe_callTy call_int1 (by rfl) T.z_int PyProof.Rows.boot_int (pa_cons (pe_op op_fdiv (pv 2) pe_int) pa_nil)) pe_int) pe_int (nomark _)) pa_nil)))))
      (pss_cons (ps_set (i := 5) sc_law.nd rfl (by first | exact Or.inl rfl | exact Or.inr rfl) (pe_callS (ok__law_refusal T) (hr.rm.mono (by decide)) (by rfl) T.g__law_refusal T.F__law_refusal.kp (b__law_refusal T) (fun σ => passAt takes0 σ) (pa_cons (pv 4) pa_nil)))
      (pss_cons (ps_if (pt_cmpR (op_neD hr.rm.units) (pe_callS (ok__law_made T) (hr.rm.mono (by decide)) (by rfl) T.g__law_made T.F__law_made.kp (b__law_made T) (fun σ => passAt takes0 σ) (pa_cons (pe_callTy call_list_of (by rfl) T.z_list PyProof.Rows.boot_list (pa_cons (pv 4) pa_nil)) pa_nil)) (pv 5) (nomark _)) (pss_one (ps_ret pe_bl)) pss_nil)
      (pss_cons (ps_if (pt_cmpR op_eq (pe_ix ix_tup (pv 5) pe_int (fun _ _ => rfl)) pe_str (nomark _)) (pss_one (ps_ret pe_bl)) pss_nil)
      (pss_cons (ps_set (i := 6) sc_law.nd rfl (by first | exact Or.inl rfl | exact Or.inr rfl) (pe_makeS T.M_Floor (ok_Floor___init__ T) (hr.rm.mono (by decide)) (by rfl) T.g_Floor (b_Floor___init__ T) (fun σ => passAt takes0 σ) (pa_cons (pv 4) pa_nil)))
      (pss_cons (ps_set (i := 7) sc_law.nd rfl (by first | exact Or.inl rfl | exact Or.inr rfl) (pe_callS (ok__law_order T) (hr.rm.mono (by decide)) (by rfl) T.g__law_order T.F__law_order.kp (b__law_order T) (fun σ => passAt takes0 σ) (pa_cons (pe_callS (ok__law_cell T) (hr.rm.mono (by decide)) (by rfl) T.g__law_cell T.F__law_cell.kp (b__law_cell T) (fun σ => passAt takes0 σ) (pa_cons (pv 1) (pa_cons pe_int pa_nil))) pa_nil)))
      (pss_cons (ps_setLc (i := 8) (own := [("four", 10)]) (g := (gName 10)) (tt := tYes) (te := (tCB (rTupS K) (tCons (tLc (iList K (tVar 7)) (gName 9) tYes (tOp (rIxT K) (tVar 10) (tVar 9)) [9]) tNil))) rfl sc_law.nd rfl rfl (sw_true rfl rfl rfl (by decide +kernel)) (pi_list (pe_callS (ok__law_fours T) (hr.rm.mono (by decide)) (by rfl) T.g__law_fours T.F__law_fours.kp (b__law_fours T) (fun σ => passAt takes0 σ) (pa_cons (pv 3) pa_nil))) (blkOk_by (N := N_law) (sc := defScope s_law) (own := [("four", 10)]) (by decide +kernel)) (fun _ _ _ _ _ => (pg_name (i := 10) sc_law.nd rfl (by first | exact Or.inl rfl | exact Or.inr rfl))) (fun _ _ _ _ _ => by exact pts_nil) (fun _ _ _ _ _ => by exact (pe_callTy call_tuple_of (by rfl) T.z_tuple PyProof.Rows.boot_tuple (pa_cons (pe_lc (own := [("k", 9)]) (g := (gName 9)) (tt := tYes) (te := (tOp (rIxT K) (tVar 10) (tVar 9))) rfl sc_law.nd (pi_list (pv 7)) (by exact (show BlkOk N_law (relS _ (defScope s_law)) _ [("k", 9)] from blkOk_by (by decide +kernel))) (fun _ _ _ _ _ => (pg_name (i := 9) sc_law.nd rfl (by first | exact Or.inl rfl | exact Or.inr rfl))) (fun _ _ _ _ _ => by exact pts_nil) (fun _ _ _ _ _ => by exact (pe_ix ix_tup (pv 10) (pv 9) (fun _ _ => rfl)))) pa_nil))))
      (pss_cons (ps_set (i := 11) sc_law.nd rfl (by first | exact Or.inl rfl | exact Or.inr rfl) (pe_tup (pa_cons pe_int (pa_cons (pv 3) (pa_cons (pe_op op_sub (pv 3) pe_int) (pa_cons pe_int (pa_cons (pe_un un_neg pe_int) (pa_cons (pe_op op_add (pv 3) (pe_op op_pow pe_int pe_int)) (pa_cons pe_int pa_nil)))))))))
      (pss_cons (ps_set (i := 12) sc_law.nd rfl (by first | exact Or.inl rfl | exact Or.inr rfl) (pe_callS (ok__law_digits T) (hr.rm.mono (by decide)) (by rfl) T.g__law_digits T.F__law_digits.kp (b__law_digits T) (fun σ => passAt takes0 σ) (pa_cons (pe_callS (ok__law_cell T) (hr.rm.mono (by decide)) (by rfl) T.g__law_cell T.F__law_cell.kp (b__law_cell T) (fun σ => passAt takes0 σ) (pa_cons (pv 1) (pa_cons pe_int pa_nil))) (pa_cons pe_int (pa_cons pe_int pa_nil)))))
      (pss_cons (ps_expr (pe_bm PySem.F.plainAttrs_list PySem.F.slot_list_append PySem.F.type_list_append mt_append (pv 8) (pa_cons (pe_callTy call_tuple_of (by rfl) T.z_tuple PyProof.Rows.boot_tuple (pa_cons (pe_lc (own := [("k", 9)]) (g := (gName 9)) (tt := tYes) (te := (tOp (rIxT K) (tVar 11) (tVar 9))) rfl sc_law.nd (pi_list (pv 12)) (blkOk_by (N := N_law) (sc := defScope s_law) (own := [("k", 9)]) (by decide +kernel)) (fun _ _ _ _ _ => (pg_name (i := 9) sc_law.nd rfl (by first | exact Or.inl rfl | exact Or.inr rfl))) (fun _ _ _ _ _ => by exact pts_nil) (fun _ _ _ _ _ => by exact (pe_ix ix_tup (pv 11) (pv 9) (fun _ _ => rfl)))) pa_nil)) pa_nil)))
      (pss_cons (ps_set (i := 12) sc_law.nd rfl (by first | exact Or.inl rfl | exact Or.inr rfl) (pe_callS (ok__law_digits T) (hr.rm.mono (by decide)) (by rfl) T.g__law_digits T.F__law_digits.kp (b__law_digits T) (fun σ => passAt takes0 σ) (pa_cons (pe_callS (ok__law_cell T) (hr.rm.mono (by decide)) (by rfl) T.g__law_cell T.F__law_cell.kp (b__law_cell T) (fun σ => passAt takes0 σ) (pa_cons (pv 1) (pa_cons pe_int pa_nil))) (pa_cons (pe_op op_add (pv 3) pe_int) (pa_cons pe_int pa_nil)))))
      (pss_cons (ps_expr (pe_bm PySem.F.plainAttrs_list PySem.F.slot_list_append PySem.F.type_list_append mt_append (pv 8) (pa_cons (pe_callTy call_tuple_of (by rfl) T.z_tuple PyProof.Rows.boot_tuple (pa_cons (pe_lc (own := [("k", 9)]) (g := (gName 9)) (tt := tYes) (te := (tOp (rI0 fun i j => .int (i - j)) (tVar 9) (tC (.int 2)))) rfl sc_law.nd (pi_list (pv 12)) (blkOk_by (N := N_law) (sc := defScope s_law) (own := [("k", 9)]) (by decide +kernel)) (fun _ _ _ _ _ => (pg_name (i := 9) sc_law.nd rfl (by first | exact Or.inl rfl | exact Or.inr rfl))) (fun _ _ _ _ _ => by exact pts_nil) (fun _ _ _ _ _ => by exact (pe_op op_sub (pv 9) pe_int))) pa_nil)) pa_nil)))
      (pss_cons (ps_for (passes_of rfl) rfl (pi_list (pv 8)) (pg_name (i := 13) sc_law.nd rfl (by first | exact Or.inl rfl | exact Or.inr rfl)) (pss_one (ps_if (pt_not (pt_val (pe_callSG (ok__law_four_holds T) (hr.mono (by decide)) (by rfl) T.g__law_four_holds T.F__law_four_holds.kp (b__law_four_holds T) (fun σ => passAt takes0 σ) (pa_cons (pv 6) (pa_cons (pv 4) (pa_cons (pv 13) pa_nil)))))) (pss_one (ps_ret pe_bl)) pss_nil)))
      (pss_cons (ps_set (i := 14) sc_law.nd rfl (by first | exact Or.inl rfl | exact Or.inr rfl) (pe_callS (ok__law_pairs T) (hr.rm.mono (by decide)) (by rfl) T.g__law_pairs T.F__law_pairs.kp (b__law_pairs T) (fun σ => passAt takes0 σ) (pa_cons (pv 4) pa_nil)))
      (pss_cons (ps_set (i := 15) sc_law.nd rfl (by first | exact Or.inl rfl | exact Or.inr rfl) (pe_op op_sub (pe_callB call_len_seq (by rfl) T.z_len PySem.boot_len (pa_cons (pv 8) pa_nil)) pe_int))
      (pss_cons (ps_if (pt_not (pt_val (pe_callSG (ok__law_pairs_hold T) (hr.mono (by decide)) (by rfl) T.g__law_pairs_hold T.F__law_pairs_hold.kp (b__law_pairs_hold T) (fun σ => passAt takes0 σ) (pa_cons (pv 6) (pa_cons (pv 14) pa_nil))))) (pss_one (ps_ret pe_bl)) pss_nil)
      (pss_one (ps_ret (pe_callS (ok__law_counts_hold T) (hr.rm.mono (by decide)) (by rfl) T.g__law_counts_hold T.F__law_counts_hold.kp (b__law_counts_hold T) (fun σ => passAt takes0 σ) (pa_cons (pv 6) (pa_cons (pv 3) (pa_cons (pv 15) (pa_cons (pe_op op_sub (pv 15) (pe_callB call_len_seq (by rfl) T.z_len PySem.boot_len (pa_cons (pv 14) pa_nil))) pa_nil)))))))))))))))))))))))))), ?_⟩
  obtain ⟨a0, ns0, rfl, hS, hlen, hQ⟩ := h
  let W0 : WX := fun _ _ _ _ => False
  let ns := ns0.take 63
  let c := cell ns 0
  let n := mny c
  let P := PP ns
  have hn := mny_b c
  have hPl : P.length = n := PP_len ns
  have hPn : ∀ p ∈ P, near p := fun p hp => small_near (PP_small ns p hp)
  have S0 : Sl H (L2.start N_law [.ref a0]) (entry N_law [dv K (.list (intsD ns0))]) := Sl.start (.cons (.lst hS (dpAll_ints ns0)) .nil)
  let pre5 : Kn → Kn := fun r => some (dv K (.list (intsD ns0))) :: some (dv K (.list (intsD ns))) :: some (dv K (.int c)) :: some (dv K (.int n)) :: some (dv K (.list (P.map pD))) :: some (dv K (refD P)) :: r
  have cellc := fun (ps : Kn) (h1 : ps[1]? = some (some (dv K (.list (intsD ns))))) (k : Nat) => je_call (K := K) (M := T.M) (W := W0) (args := args__law_cell T) (dom := dom__law_cell) (out := out__law_cell T) (ns, k) (ja_cons (je_var (ps := ps) (i := 1) h1) (ja_cons (je_int (i := (k : Nat))) ja_nil)) trivial
  refine js_run (K := K) (M := T.M) (W := W0) (r := .rt (dv K (.bool true))) ?_ (Ex.refl H) S0 (fun v F' H' g p => by rw [dp_bl p]; exact hQ H')
  refine js_seq (js_set (i := 1) (P := dv K (.list (intsD ns))) (je_is (je_slL (ds := intsD ns0) (je_var (i := 0) rfl) jo_none (jo_some (je_int (i := ((63 : Nat) : Int))))) (congrArg PyData.list (cutD_map _ _ _))))
    (js_seq (js_set (i := 2) (P := dv K (.int c)) (cellc _ rfl 0))
    (js_seq (js_set (i := 3) (P := dv K (.int n)) (je_is (je_ixT (ds := sizes.map .int) (je_tup (ds := sizes.map .int) (ja_cons je_int (ja_cons je_int (ja_cons je_int (ja_cons je_int (ja_cons je_int (ja_cons je_int (ja_cons je_int (ja_cons je_int ja_nil)))))))) (by decide)) (je_mod (je_intI (je_var (i := 2) rfl)) je_int (by decide)) (at_mod (menu := sizes) (by decide) c)) (congrArg PyData.int hn.2.symm)))
    (js_seq (js_set (i := 4) (P := dv K (.list (P.map pD))) (je_call (args := args__law_drawn T) (dom := dom__law_drawn) (out := out__law_drawn T) (ns, n, decide (2 < c / 8 % 5)) (ja_cons (je_var (i := 1) rfl) (ja_cons (je_var (i := 3) rfl) (ja_cons (je_gt (je_mod (je_intI (je_div (je_var (i := 2) rfl) je_int ⟨by decide, by decide⟩)) je_int (by decide)) je_int) ja_nil))) hn.1.2))
    (js_seq (js_set (i := 5) (P := dv K (refD P)) (je_call (args := args__law_refusal T) (dom := dom__law_refusal) (out := out__law_refusal T) P (ja_cons (je_var (i := 4) rfl) ja_nil) hPn))
    (js_seq (js_if (b := false) (jt_test (je_neR (je_call (args := args__law_made T) (dom := dom__law_made) (out := out__law_made T) P (ja_cons (je_listL (je_var (i := 4) rfl)) ja_nil) trivial) (je_var (i := 5) rfl) (ok_ref P))) (fun z => Bool.noConfusion z) (fun _ => js_next))
    ?rest)))))
  case rest =>
    let ps4 : Kn := pre5 [none, none, none, none, none, none, none, none, none, none]
    show JS K T.M W0 _ ps4 _
    cases hf : floorE P with
    | some e =>
      have er : refD P = .tuple [.str "raised", .str (nmE e.c), e.val, .bool true] := by
        unfold refD
        rw [hf]
        rfl
      exact js_rt (js_if (b := true) (jt_is (jt_test (je_eqS (je_ixT (je_is (je_var (ps := ps4) (i := 5) rfl) er) (je_int (i := 0)) (by exact atI_nat (j := 0) rfl)) je_str)) (by decide)) (fun _ => js_ret je_bl) (fun z => Bool.noConfusion z))
    | none =>
      have er : refD P = .tuple [.str "floor", .str "", .tuple (P.map pD), .bool true] := by
        unfold refD
        rw [hf]
        rfl
      have mf := mk_floor T (W := W0) (ps := ps4) (pts := P) (ja_cons (je_var (i := 4) rfl) ja_nil)
      rw [hf] at mf
      obtain ⟨hb, ho⟩ := floorE_parts hf
      have h10 : P.length ≤ 10 := by rw [hPl]; exact hn.1.2
      have h3 : 3 ≤ P.length := by rw [hPl]; exact hn.1.1
      have g : Gp P := gp_of ho h10 (by omega)
      let fl := ob1 K T.a_Floor "points" (.tuple (P.map pD))
      have manyV : ∀ ps : Kn, ps[3]? = some (some (dv K (.int n))) → JD K T.M W0 (tVar 3) ps (.int P.length) := fun ps h => je_is (je_var (i := 3) h) (by rw [hPl])
      let ord := ordL (cell ns 13)
      have ol : ord.length = 4 := (ord_perm _).length_eq
      have om : ∀ k ∈ ord, 0 ≤ k ∧ k < 4 := fun k hk => by
        have := (ord_perm _).mem_iff.mp hk
        simp only [List.mem_cons, List.not_mem_nil, or_false] at this
        omega
      let r0 : List PyData := (subsL P.length 4).map fun l => tupI (pk ord l)
      have hfo := subs4_len P.length (by omega)
      have hr0 : r0.length ≤ 210 := by
        show ((subsL P.length 4).map _).length ≤ 210
        rw [List.length_map]
        exact hfo
      let menu : List Int := menuL P.length
      let r1 : List Int := pk (dgL (cell ns 11) 7) menu
      let r2 : List Int := (dgL (cell ns 12) ((P.length : Int) + 4)).map fun k => k - 2
      refine js_seq (js_if (b := false) (jt_is (jt_test (je_eqS (je_ixT (je_is (je_var (ps := ps4) (i := 5) rfl) er) (je_int (i := 0)) (by exact atI_nat (j := 0) rfl)) je_str)) (by decide)) (fun z => Bool.noConfusion z) (fun _ => js_next))
        (js_seq (js_set (i := 6) mf)
        (js_seq (js_set (i := 7) (P := dv K (.list (ord.map .int))) (je_call (args := args__law_order T) (dom := dom__law_order) (out := out__law_order T) (cell ns 13) (ja_cons (cellc _ rfl 13) ja_nil) trivial))
        (jl_own (i := 8) (ds := r0) ?rows fun D F1 H1 hD => ?tail)))
      case rows =>
        refine jn_is (jn_lc (M := T.M) (W := W0) (vs := [10]) (W' := fun _ _ _ _ => False) (subsL P.length 4) tupI (fun _ => true) (fun l => tupI (pk ord l)) (ji_list (je_call (args := args__law_fours T) (dom := dom__law_fours) (out := out__law_fours T) P.length (ja_cons (manyV _ rfl) ja_nil) h10)) (by omega) fun l hl => ⟨_, jg_name, jt_yes, fun _ => ?_⟩) (by rw [filter_yes])
        have f4 := (subs4_four h10 hl).1
        refine je_is (je_tupL (je_lc (vs := [9]) (W' := fun _ _ _ _ => False) ord .int (fun _ => true) (fun k => .int (l.getD k.toNat 0)) (ji_list (je_var (i := 7) rfl)) (by rw [ol]; decide) fun k hk => ⟨_, jg_name, jt_yes, fun _ => je_ixT (ds := l.map .int) (je_var (i := 10) rfl) (je_var (i := 9) rfl) (at_in (by have := om k hk; have := f4.1; omega))⟩)) ?_
        rw [filter_yes]
        unfold tupI pk
        rw [List.map_map]
        rfl
      case tail =>
        have fourI : ∀ ps : Kn, ps[3]? = some (some (dv K (.int n))) → JD K T.M W0 (tOp (rI0 fun i j => .int (i + j)) (tVar 3) (tC (.int 4))) ps (.int ((P.length : Int) + 4)) := fun ps h => je_add (manyV ps h) je_int
        let psL : Option PV → Option PV → Kn := fun x11 x12 => pre5 [some fl, some (dv K (.list (ord.map .int))), some (xv (.ref D)), none, none, x11, x12, none, none, none]
        have d1 : ∀ x11 x12 ds, JL K T.M W0 D F1 H1 _ (psL x11 x12) ds (.nx (psL x11 (some (dv K (.list ((dgL (cell ns 11) 7).map .int))))) ds) := fun x11 x12 ds => jl_js (js_set (i := 12) (P := dv K (.list ((dgL (cell ns 11) 7).map .int))) (je_call (args := args__law_digits T) (dom := dom__law_digits) (out := out__law_digits T) (cell ns 11, 7) (ja_cons (cellc _ rfl 11) (ja_cons je_int (ja_cons je_int ja_nil))) ⟨show (1 : Int) ≤ 7 by decide, show (7 : Int) ≤ 100 by decide⟩))
        have d2 : ∀ x11 x12 ds, JL K T.M W0 D F1 H1 _ (psL x11 x12) ds (.nx (psL x11 (some (dv K (.list ((dgL (cell ns 12) ((P.length : Int) + 4)).map .int))))) ds) := fun x11 x12 ds => jl_js (js_set (i := 12) (P := dv K (.list ((dgL (cell ns 12) ((P.length : Int) + 4)).map .int))) (je_call (args := args__law_digits T) (dom := dom__law_digits) (out := out__law_digits T) (cell ns 12, (P.length : Int) + 4) (ja_cons (cellc _ rfl 12) (ja_cons (je_add (manyV _ rfl) je_int) (ja_cons je_int ja_nil))) ⟨by dsimp only; omega, by dsimp only; omega⟩))
        refine jl_seq (qs := psL (some (dv K (.tuple (menu.map .int)))) none) (es := r0) (jl_js (js_set (i := 11) (P := dv K (.tuple (menu.map .int))) (je_is (je_tup (ds := (menuL P.length).map .int) (ja_cons je_int (ja_cons (manyV _ rfl) (ja_cons (je_sub (manyV _ rfl) je_int) (ja_cons je_int (ja_cons (je_neg je_int) (ja_cons (je_add (manyV _ rfl) (je_pow (i := 10) (j := 30) je_int je_int ⟨by decide, by decide, by decide⟩)) (ja_cons je_int ja_nil))))))) (by rw [List.length_map]; exact (show 7 ≤ 100000 by decide))) rfl)))
          (jl_seq (d1 _ _ _)
          (jl_seq (jl_app (i := 8) (d := tupI r1) rfl hD (ja_cons ?row1 ja_nil) (by omega))
          (jl_seq (d2 _ _ _)
          (jl_seq (jl_app (i := 8) (d := tupI r2) rfl hD (ja_cons ?row2 ja_nil) (by rw [List.length_append]; show r0.length + 1 < 90000; omega))
          (jl_frz (i := 8) rfl hD ?fin)))))
        case row1 =>
          refine je_is (je_tupL (je_lc (vs := [9]) (W' := fun _ _ _ _ => False) (dgL (cell ns 11) 7) .int (fun _ => true) (fun k => .int (menu.getD k.toNat 0)) (ji_list (je_var (i := 12) rfl)) (by rw [dgL_len]; decide) fun k hk => ⟨_, jg_name, jt_yes, fun _ => je_ixT (ds := menu.map .int) (je_var (i := 11) rfl) (je_var (i := 9) rfl) (at_in (by have := dgL_in (by decide) hk; have : menu.length = 7 := rfl; omega))⟩)) ?_
          rw [filter_yes]
          show _ = tupI (pk _ menu)
          unfold tupI pk
          rw [List.map_map]
          rfl
        case row2 =>
          refine je_is (je_tupL (je_lc (vs := [9]) (W' := fun _ _ _ _ => False) (dgL (cell ns 12) ((P.length : Int) + 4)) .int (fun _ => true) (fun k => .int (k - 2)) (ji_list (je_var (i := 12) rfl)) (by rw [dgL_len]; decide) fun k hk => ⟨_, jg_name, jt_yes, fun _ => je_sub (je_var (i := 9) rfl) je_int⟩)) ?_
          rw [filter_yes]
          show _ = tupI (List.map _ _)
          unfold tupI
          rw [List.map_map]
          rfl
        case fin =>
          let RL : List (List Int) := (subsL P.length 4).map (pk ord) ++ [r1] ++ [r2]
          have eRL : r0 ++ [tupI r1] ++ [tupI r2] = RL.map tupI := by
            show _ = (((subsL P.length 4).map (pk ord) ++ [r1]) ++ [r2]).map tupI
            rw [List.map_append, List.map_append, List.map_map]
            rfl
          have l4s : ∀ x ∈ RL, x.length = 4 := fun x hx => by
            rcases List.mem_append.mp hx with z | z
            · rcases List.mem_append.mp z with y | y
              · obtain ⟨l, _, rfl⟩ := List.mem_map.mp y
                unfold pk
                rw [List.length_map]
                exact ol
              · rw [List.mem_singleton.mp y]
                show (pk _ _).length = 4
                unfold pk
                rw [List.length_map, dgL_len]
            · rw [List.mem_singleton.mp z]
              show (List.map _ _).length = 4
              rw [List.length_map, dgL_len]
          have lRL : (RL.map tupI).length = (subsL P.length 4).length + 2 := by
            rw [List.length_map]
            show ((subsL P.length 4).map (pk ord) ++ [r1] ++ [r2]).length = _
            rw [List.length_append, List.length_append, List.length_map]
            rfl
          rw [eRL]
          have e14 : (pairsI P).length = nI P := pairs_nI P
          let psF : Option PV → Option PV → Option PV → Option PV → Kn := fun x12 x13 x14 x15 => pre5 [some fl, some (dv K (.list (ord.map .int))), some (dv K (.list (RL.map tupI))), none, none, some (dv K (.tuple (menu.map .int))), x12, x13, x14, x15]
          show JS K T.M W0 _ (psF (some (dv K (.list ((dgL (cell ns 12) ((P.length : Int) + 4)).map .int)))) none none none) _
          refine js_seq (qs := psF (some (dv K (.list ((dgL (cell ns 12) ((P.length : Int) + 4)).map .int)))) none none none) ?f1 (js_seq (qs := psF (some (dv K (.list ((dgL (cell ns 12) ((P.length : Int) + 4)).map .int)))) none (some (dv K (.list ((pairsI P).map encP)))) none) ?f2 (js_seq (qs := psF (some (dv K (.list ((dgL (cell ns 12) ((P.length : Int) + 4)).map .int)))) none (some (dv K (.list ((pairsI P).map encP)))) (some (dv K (.int (subsL P.length 4).length)))) ?f3 (js_seq (qs := psF (some (dv K (.list ((dgL (cell ns 12) ((P.length : Int) + 4)).map .int)))) none (some (dv K (.list ((pairsI P).map encP)))) (some (dv K (.int (subsL P.length 4).length)))) ?f4 ?f5)))
          case f2 => exact js_set (i := 14) (P := dv K (.list ((pairsI P).map encP))) (je_call (args := args__law_pairs T) (dom := dom__law_pairs) (out := out__law_pairs T) P (ja_cons (je_var (i := 4) rfl) ja_nil) ⟨h10, hPn⟩)
          case f3 => exact js_set (i := 15) (P := dv K (.int (subsL P.length 4).length)) (je_is (je_sub (je_lenL (je_var (i := 8) rfl)) je_int) (by rw [lRL]; exact congrArg PyData.int (by omega)))
          case f4 => exact js_if (b := false) (jt_not (jt_B (je_call (args := args__law_pairs_hold T) (dom := dom__law_pairs_hold) (out := out__law_pairs_hold T) P (ja_cons (je_var (i := 6) rfl) (ja_cons (je_var (i := 14) rfl) ja_nil)) ⟨hPn, h10, g⟩))) (fun z => Bool.noConfusion z) (fun _ => js_next)
          case f5 => exact js_ret (je_call (args := args__law_counts_hold T) (dom := dom__law_counts_hold) (out := out__law_counts_hold T) P (ja_cons (je_var (i := 6) rfl) (ja_cons (manyV _ rfl) (ja_cons (je_var (i := 15) rfl) (ja_cons (je_is (je_sub (je_var (i := 15) rfl) (je_lenL (je_var (i := 14) rfl))) (by rw [List.length_map, e14])) ja_nil)))) ⟨hPn, h10, h3, g⟩)
          case f1 =>
            refine js_allL (vs := [13]) RL tupI (ji_list (je_var (i := 8) rfl)) fun x hx => ⟨_, jg_name, ?_⟩
            have hx4 := l4s x hx
            match x, hx4 with
            | [u, v, z, y], _ =>
              exact js_if (b := false) (jt_not (jt_B (je_call (args := args__law_four_holds T) (dom := dom__law_four_holds) (out := out__law_four_holds T) (P, u, v, z, y) (ja_cons (je_var (i := 6) rfl) (ja_cons (je_var (i := 4) rfl) (ja_cons (je_var (i := 13) rfl) ja_nil))) ⟨hPn, h10, g⟩))) (fun z => Bool.noConfusion z) (fun _ => js_weak js_next ⟨.inr rfl, .inr rfl, .inr rfl, .inr rfl, .inr rfl, .inr rfl, .inr rfl, .inr rfl, .inr rfl, .inr rfl, .inr rfl, .inr rfl, .inr rfl, .inl rfl, .inr rfl, .inr rfl, trivial⟩)
theorem bt {K : PySem.W.Frag} {mg : Str → Option Value} (T : Tx K mg) (s : Shared) (v : Value) : BindsTo s T.fd_law ⟨[v], []⟩ [("script", v)] := by
  obtain ⟨oc, od, kV, doc, pm, an, cdv, ct, osl, e, _⟩ := T.F_law.ex
  rw [e]
  exact BindsTo.of_eq rfl
theorem close {l : PySem.W.OpenLaw} {w : World} {K : PySem.W.Frag} {mg : Str → Option Value} {fa : Addr} (h : ∃ T : Tx K mg, mg "law" = some (.ref T.a_law)) (hm : mg "law" = some (.ref fa)) :
    ∃ fd : FuncData, (∀ (s : Shared) (v : Value), BindsTo s fd ⟨[v], []⟩ [("script", v)]) ∧ ∀ base : Heap, K.In base → base.Ns mainGlobals mg → FnG l.prog w K mg base L2.CX0 11 fa fd ["script"] (sp_law K) := by
  obtain ⟨T, hl⟩ := h
  rw [hm] at hl
  cases hl
  exact ⟨T.fd_law, bt T, fun base _ _ => ok_law T⟩
end K11

open PySem PySem.W PyProof.Rows
set_option maxRecDepth 100000 in
set_option maxHeartbeats 0 in
theorem PySem.Challenge.cw_everybowl_k11_convex_fours_three_ways_holds : PySem.Challenge.rw_everybowl_k11_convex_fours_three_ways.Holds := by
  w_on; o_law; k_head; (case hw => w_witness2)
  k_fill
  refine EB.walk_ofG (l := PySem.Challenge.rw_everybowl_k11_convex_fours_three_ways) (n := 63) (k := 11) (x := "script") (CX := L2.CX0) (sp := K11.sp_law) rfl (by decide) rfl ⟨rfl, by decide, by decide⟩ (fun w h Y => PySem.W.kIn_of Y) ?F (fun _ _ a ns hl _ hS => K11.sp_start hl hS) (fun _ _ _ _ z => z)
  case F =>
    intro w mg fa h KX G LX hmg
    refine K11.close ?mk hmg
    case mk =>
      refine' K11.mk_tx KX G  ?n_Repeated ?o_Repeated ?v_Repeated ?sa_Repeated ?sb_Repeated ?ty_Repeated ?kc_Repeated ?ii_Repeated ?ti_Repeated ?nf_Repeated ?ga_Repeated ?gt_Repeated ?hd_Repeated ?is_Repeated ?ca_Repeated ?mo_Repeated ?l_Repeated ?c_Repeated ?kp_Repeated ?n_NoPoint ?o_NoPoint ?v_NoPoint ?sa_NoPoint ?sb_NoPoint ?ty_NoPoint ?kc_NoPoint ?ii_NoPoint ?ti_NoPoint ?nf_NoPoint ?ga_NoPoint ?gt_NoPoint ?hd_NoPoint ?is_NoPoint ?ca_NoPoint ?mo_NoPoint ?l_NoPoint ?c_NoPoint ?kp_NoPoint ?n_TooFar ?o_TooFar ?v_TooFar ?sa_TooFar ?sb_TooFar ?ty_TooFar ?kc_TooFar ?ii_TooFar ?ti_TooFar ?nf_TooFar ?ga_TooFar ?gt_TooFar ?hd_TooFar ?is_TooFar ?ca_TooFar ?mo_TooFar ?l_TooFar ?c_TooFar ?kp_TooFar ?n_OnLine ?o_OnLine ?v_OnLine ?sa_OnLine ?sb_OnLine ?ty_OnLine ?kc_OnLine ?ii_OnLine ?ti_OnLine ?nf_OnLine ?ga_OnLine ?gt_OnLine ?hd_OnLine ?is_OnLine ?ca_OnLine ?mo_OnLine ?l_OnLine ?c_OnLine ?kp_OnLine ?n_WrongCount ?o_WrongCount ?v_WrongCount ?sa_WrongCount ?sb_WrongCount ?ty_WrongCount ?kc_WrongCount ?ii_WrongCount ?ti_WrongCount ?nf_WrongCount ?ga_WrongCount ?gt_WrongCount ?hd_WrongCount ?is_WrongCount ?ca_WrongCount ?mo_WrongCount ?l_WrongCount ?c_WrongCount ?kp_WrongCount ?n_BowlError ?is_BowlError ?ty_BowlError ?gn ?tkc ?n_Floor ?pg_Floor ?hd_Floor ?po_Floor ?sa_Floor ?tc_Floor ?rd_Floor ?gc_Floor ?na_Floor_points ?cv_Floor_LEAST ?cv_Floor_MOST ?cv_Floor_FAR ?ca_Floor ?mo_Floor ?n_corners_by_lines ?l_corners_by_lines ?c_corners_by_lines ?kp_corners_by_lines ?n_tally ?l_tally ?c_tally ?kp_tally ?f_Floor___len__ ?fi_Floor___len__ ?l_Floor___len__ ?c_Floor___len__ ?kp_Floor___len__ ?n_others ?l_others ?c_others ?kp_others ?n_bare_area ?l_bare_area ?c_bare_area ?kp_bare_area ?n_check_number ?l_check_number ?c_check_number ?kp_check_number ?n_check_numbers ?l_check_numbers ?c_check_numbers ?kp_check_numbers ?f_Floor_left_of ?fi_Floor_left_of ?l_Floor_left_of ?c_Floor_left_of ?kp_Floor_left_of ?n_lines_and_lefts ?l_lines_and_lefts ?c_lines_and_lefts ?kp_lines_and_lefts ?n_line_row ?l_line_row ?c_line_row ?kp_line_row ?n_corner_row ?l_corner_row ?c_corner_row ?kp_corner_row ?n__law_whole ?l__law_whole ?c__law_whole ?kp__law_whole ?n_check_range ?l_check_range ?c_check_range ?kp_check_range ?n_choose ?l_choose ?c_choose ?kp_choose ?n_first_behind ?l_first_behind ?c_first_behind ?kp_first_behind ?n_subset_list ?l_subset_list ?c_subset_list ?kp_subset_list ?n_is_within ?l_is_within ?c_is_within ?kp_is_within ?n_is_around ?l_is_around ?c_is_around ?kp_is_around ?n_inner_pairs ?l_inner_pairs ?c_inner_pairs ?kp_inner_pairs ?n_convex_fours ?l_convex_fours ?c_convex_fours ?kp_convex_fours ?n__law_counts_hold ?l__law_counts_hold ?c__law_counts_hold ?kp__law_counts_hold ?n__law_pairs_hold ?l__law_pairs_hold ?c__law_pairs_hold ?kp__law_pairs_hold ?n__law_fours ?l__law_fours ?c__law_fours ?kp__law_fours ?n__law_area ?l__law_area ?c__law_area ?kp__law_area ?n__law_is_within ?l__law_is_within ?c__law_is_within ?kp__law_is_within ?n__law_inner ?l__law_inner ?c__law_inner ?kp__law_inner ?n__law_pairs ?l__law_pairs ?c__law_pairs ?kp__law_pairs ?n_rest_of ?l_rest_of ?c_rest_of ?kp_rest_of ?n_inner_of ?l_inner_of ?c_inner_of ?kp_inner_of ?n_left_among ?l_left_among ?c_left_among ?kp_left_among ?n_diagonal ?l_diagonal ?c_diagonal ?kp_diagonal ?n_split ?l_split ?c_split ?kp_split ?n__law_told ?l__law_told ?c__law_told ?kp__law_told ?n__law_diagonals ?l__law_diagonals ?c__law_diagonals ?kp__law_diagonals ?n__law_dues ?l__law_dues ?c__law_dues ?kp__law_dues ?n__law_four_holds ?l__law_four_holds ?c__law_four_holds ?kp__law_four_holds ?n__law_digits ?l__law_digits ?c__law_digits ?kp__law_digits ?n__law_cell ?l__law_cell ?c__law_cell ?kp__law_cell ?n__law_order ?l__law_order ?c__law_order ?kp__law_order ?n_check_turns ?l_check_turns ?c_check_turns ?kp_check_turns ?n_check_point ?l_check_point ?c_check_point ?kp_check_point ?n_check_count ?l_check_count ?c_check_count ?kp_check_count ?f_Floor___init__ ?fi_Floor___init__ ?l_Floor___init__ ?c_Floor___init__ ?kp_Floor___init__ ?mk_Floor ?kc_Floor ?n__law_made ?l__law_made ?c__law_made ?kp__law_made ?n__law_refusal ?l__law_refusal ?c__law_refusal ?kp__law_refusal ?n__law_drawn ?l__law_drawn ?c__law_drawn ?kp__law_drawn ?n_law ?l_law ?c_law ?kp_law ?n_comb ?z_ValueError ?z_abs ?z_bool ?z_enumerate ?z_int ?z_isinstance ?z_len ?z_list ?z_range ?z_repr ?z_sorted ?z_sum ?z_tuple ?s_WrongCount_BowlError ?s_WrongCount_ValueError ?s_TooFar_BowlError ?s_TooFar_ValueError ?s_OnLine_BowlError ?s_OnLine_ValueError ?s_NoPoint_BowlError ?s_NoPoint_ValueError ?s_Repeated_BowlError ?s_Repeated_ValueError ?s_WrongCount_WrongCount ?s_WrongCount_OnLine ?s_WrongCount_TooFar ?s_TooFar_TooFar ?s_TooFar_OnLine ?s_TooFar_WrongCount ?s_OnLine_OnLine ?s_OnLine_TooFar ?s_OnLine_WrongCount ?s_NoPoint_NoPoint ?s_NoPoint_Repeated ?s_NoPoint_TooFar ?s_Repeated_Repeated ?s_Repeated_NoPoint ?s_Repeated_TooFar
      (case n_Repeated => k_is)
      (case o_Repeated => k_is)
      (case v_Repeated => exact (by decide +kernel))
      (case sa_Repeated => k_is)
      (case sb_Repeated => k_is)
      (case ty_Repeated => k_is)
      (case kc_Repeated => k_is)
      (case ii_Repeated => k_is)
      (case ti_Repeated => k_is)
      (case nf_Repeated => k_is)
      (case ga_Repeated => k_is)
      (case gt_Repeated => k_is)
      (case hd_Repeated => k_is)
      (case is_Repeated => k_is)
      (case ca_Repeated => k_is)
      (case mo_Repeated => k_is)
      (case l_Repeated => k_is)
      (case c_Repeated => k_is)
      (case kp_Repeated => k_is)
      (case n_NoPoint => k_is)
      (case o_NoPoint => k_is)
      (case v_NoPoint => exact (by decide +kernel))
      (case sa_NoPoint => k_is)
      (case sb_NoPoint => k_is)
      (case ty_NoPoint => k_is)
      (case kc_NoPoint => k_is)
      (case ii_NoPoint => k_is)
      (case ti_NoPoint => k_is)
      (case nf_NoPoint => k_is)
      (case ga_NoPoint => k_is)
      (case gt_NoPoint => k_is)
      (case hd_NoPoint => k_is)
      (case is_NoPoint => k_is)
      (case ca_NoPoint => k_is)
      (case mo_NoPoint => k_is)
      (case l_NoPoint => k_is)
      (case c_NoPoint => k_is)
      (case kp_NoPoint => k_is)
      (case n_TooFar => k_is)
      (case o_TooFar => k_is)
      (case v_TooFar => exact (by decide +kernel))
      (case sa_TooFar => k_is)
      (case sb_TooFar => k_is)
      (case ty_TooFar => k_is)
      (case kc_TooFar => k_is)
      (case ii_TooFar => k_is)
      (case ti_TooFar => k_is)
      (case nf_TooFar => k_is)
      (case ga_TooFar => k_is)
      (case gt_TooFar => k_is)
      (case hd_TooFar => k_is)
      (case is_TooFar => k_is)
      (case ca_TooFar => k_is)
      (case mo_TooFar => k_is)
      (case l_TooFar => k_is)
      (case c_TooFar => k_is)
      (case kp_TooFar => k_is)
      (case n_OnLine => k_is)
      (case o_OnLine => k_is)
      (case v_OnLine => exact (by decide +kernel))
      (case sa_OnLine => k_is)
      (case sb_OnLine => k_is)
      (case ty_OnLine => k_is)
      (case kc_OnLine => k_is)
      (case ii_OnLine => k_is)
      (case ti_OnLine => k_is)
      (case nf_OnLine => k_is)
      (case ga_OnLine => k_is)
      (case gt_OnLine => k_is)
      (case hd_OnLine => k_is)
      (case is_OnLine => k_is)
      (case ca_OnLine => k_is)
      (case mo_OnLine => k_is)
      (case l_OnLine => k_is)
      (case c_OnLine => k_is)
      (case kp_OnLine => k_is)
      (case n_WrongCount => k_is)
      (case o_WrongCount => k_is)
      (case v_WrongCount => exact (by decide +kernel))
      (case sa_WrongCount => k_is)
      (case sb_WrongCount => k_is)
      (case ty_WrongCount => k_is)
      (case kc_WrongCount => k_is)
      (case ii_WrongCount => k_is)
      (case ti_WrongCount => k_is)
      (case nf_WrongCount => k_is)
      (case ga_WrongCount => k_is)
      (case gt_WrongCount => k_is)
      (case hd_WrongCount => k_is)
      (case is_WrongCount => k_is)
      (case ca_WrongCount => k_is)
      (case mo_WrongCount => k_is)
      (case l_WrongCount => k_is)
      (case c_WrongCount => k_is)
      (case kp_WrongCount => k_is)
      (case n_BowlError => k_is)
      (case is_BowlError => k_is)
      (case ty_BowlError => k_is)
      (case gn => k_is)
      (case tkc => k_is)
      (case n_Floor => k_is)
      (case pg_Floor => k_is)
      (case hd_Floor => k_is)
      (case po_Floor => k_is)
      (case sa_Floor => k_is)
      (case tc_Floor => k_is)
      (case rd_Floor => k_is)
      (case gc_Floor => k_is)
      (case na_Floor_points => k_is)
      (case cv_Floor_LEAST => k_is)
      (case cv_Floor_MOST => k_is)
      (case cv_Floor_FAR => k_is)
      (case ca_Floor => k_is)
      (case mo_Floor => k_is)
      (case n_corners_by_lines => k_is)
      (case l_corners_by_lines => k_is)
      (case c_corners_by_lines => k_is)
      (case kp_corners_by_lines => k_is)
      (case n_tally => k_is)
      (case l_tally => k_is)
      (case c_tally => k_is)
      (case kp_tally => k_is)
      (case f_Floor___len__ => k_is)
      (case fi_Floor___len__ => k_is)
      (case l_Floor___len__ => k_is)
      (case c_Floor___len__ => k_is)
      (case kp_Floor___len__ => k_is)
      (case n_others => k_is)
      (case l_others => k_is)
      (case c_others => k_is)
      (case kp_others => k_is)
      (case n_bare_area => k_is)
      (case l_bare_area => k_is)
      (case c_bare_area => k_is)
      (case kp_bare_area => k_is)
      (case n_check_number => k_is)
      (case l_check_number => k_is)
      (case c_check_number => k_is)
      (case kp_check_number => k_is)
      (case n_check_numbers => k_is)
      (case l_check_numbers => k_is)
      (case c_check_numbers => k_is)
      (case kp_check_numbers => k_is)
      (case f_Floor_left_of => k_is)
      (case fi_Floor_left_of => k_is)
      (case l_Floor_left_of => k_is)
      (case c_Floor_left_of => k_is)
      (case kp_Floor_left_of => k_is)
      (case n_lines_and_lefts => k_is)
      (case l_lines_and_lefts => k_is)
      (case c_lines_and_lefts => k_is)
      (case kp_lines_and_lefts => k_is)
      (case n_line_row => k_is)
      (case l_line_row => k_is)
      (case c_line_row => k_is)
      (case kp_line_row => k_is)
      (case n_corner_row => k_is)
      (case l_corner_row => k_is)
      (case c_corner_row => k_is)
      (case kp_corner_row => k_is)
      (case n__law_whole => k_is)
      (case l__law_whole => k_is)
      (case c__law_whole => k_is)
      (case kp__law_whole => k_is)
      (case n_check_range => k_is)
      (case l_check_range => k_is)
      (case c_check_range => k_is)
      (case kp_check_range => k_is)
      (case n_choose => k_is)
      (case l_choose => k_is)
      (case c_choose => k_is)
      (case kp_choose => k_is)
      (case n_first_behind => k_is)
      (case l_first_behind => k_is)
      (case c_first_behind => k_is)
      (case kp_first_behind => k_is)
      (case n_subset_list => k_is)
      (case l_subset_list => k_is)
      (case c_subset_list => k_is)
      (case kp_subset_list => k_is)
      (case n_is_within => k_is)
      (case l_is_within => k_is)
      (case c_is_within => k_is)
      (case kp_is_within => k_is)
      (case n_is_around => k_is)
      (case l_is_around => k_is)
      (case c_is_around => k_is)
      (case kp_is_around => k_is)
      (case n_inner_pairs => k_is)
      (case l_inner_pairs => k_is)
      (case c_inner_pairs => k_is)
      (case kp_inner_pairs => k_is)
      (case n_convex_fours => k_is)
      (case l_convex_fours => k_is)
      (case c_convex_fours => k_is)
      (case kp_convex_fours => k_is)
      (case n__law_counts_hold => k_is)
      (case l__law_counts_hold => k_is)
      (case c__law_counts_hold => k_is)
      (case kp__law_counts_hold => k_is)
      (case n__law_pairs_hold => k_is)
      (case l__law_pairs_hold => k_is)
      (case c__law_pairs_hold => k_is)
      (case kp__law_pairs_hold => k_is)
      (case n__law_fours => k_is)
      (case l__law_fours => k_is)
      (case c__law_fours => k_is)
      (case kp__law_fours => k_is)
      (case n__law_area => k_is)
      (case l__law_area => k_is)
      (case c__law_area => k_is)
      (case kp__law_area => k_is)
      (case n__law_is_within => k_is)
      (case l__law_is_within => k_is)
      (case c__law_is_within => k_is)
      (case kp__law_is_within => k_is)
      (case n__law_inner => k_is)
      (case l__law_inner => k_is)
      (case c__law_inner => k_is)
      (case kp__law_inner => k_is)
      (case n__law_pairs => k_is)
      (case l__law_pairs => k_is)
      (case c__law_pairs => k_is)
      (case kp__law_pairs => k_is)
      (case n_rest_of => k_is)
      (case l_rest_of => k_is)
      (case c_rest_of => k_is)
      (case kp_rest_of => k_is)
      (case n_inner_of => k_is)
      (case l_inner_of => k_is)
      (case c_inner_of => k_is)
      (case kp_inner_of => k_is)
      (case n_left_among => k_is)
      (case l_left_among => k_is)
      (case c_left_among => k_is)
      (case kp_left_among => k_is)
      (case n_diagonal => k_is)
      (case l_diagonal => k_is)
      (case c_diagonal => k_is)
      (case kp_diagonal => k_is)
      (case n_split => k_is)
      (case l_split => k_is)
      (case c_split => k_is)
      (case kp_split => k_is)
      (case n__law_told => k_is)
      (case l__law_told => k_is)
      (case c__law_told => k_is)
      (case kp__law_told => k_is)
      (case n__law_diagonals => k_is)
      (case l__law_diagonals => k_is)
      (case c__law_diagonals => k_is)
      (case kp__law_diagonals => k_is)
      (case n__law_dues => k_is)
      (case l__law_dues => k_is)
      (case c__law_dues => k_is)
      (case kp__law_dues => k_is)
      (case n__law_four_holds => k_is)
      (case l__law_four_holds => k_is)
      (case c__law_four_holds => k_is)
      (case kp__law_four_holds => k_is)
      (case n__law_digits => k_is)
      (case l__law_digits => k_is)
      (case c__law_digits => k_is)
      (case kp__law_digits => k_is)
      (case n__law_cell => k_is)
      (case l__law_cell => k_is)
      (case c__law_cell => k_is)
      (case kp__law_cell => k_is)
      (case n__law_order => k_is)
      (case l__law_order => k_is)
      (case c__law_order => k_is)
      (case kp__law_order => k_is)
      (case n_check_turns => k_is)
      (case l_check_turns => k_is)
      (case c_check_turns => k_is)
      (case kp_check_turns => k_is)
      (case n_check_point => k_is)
      (case l_check_point => k_is)
      (case c_check_point => k_is)
      (case kp_check_point => k_is)
      (case n_check_count => k_is)
      (case l_check_count => k_is)
      (case c_check_count => k_is)
      (case kp_check_count => k_is)
      (case f_Floor___init__ => k_is)
      (case fi_Floor___init__ => k_is)
      (case l_Floor___init__ => k_is)
      (case c_Floor___init__ => k_is)
      (case kp_Floor___init__ => k_is)
      (case mk_Floor => k_is)
      (case kc_Floor => k_is)
      (case n__law_made => k_is)
      (case l__law_made => k_is)
      (case c__law_made => k_is)
      (case kp__law_made => k_is)
      (case n__law_refusal => k_is)
      (case l__law_refusal => k_is)
      (case c__law_refusal => k_is)
      (case kp__law_refusal => k_is)
      (case n__law_drawn => k_is)
      (case l__law_drawn => k_is)
      (case c__law_drawn => k_is)
      (case kp__law_drawn => k_is)
      (case n_law => k_is)
      (case l_law => k_is)
      (case c_law => k_is)
      (case kp_law => k_is)
      (case n_comb => k_is)
      (case z_ValueError => k_is)
      (case z_abs => k_is)
      (case z_bool => k_is)
      (case z_enumerate => k_is)
      (case z_int => k_is)
      (case z_isinstance => k_is)
      (case z_len => k_is)
      (case z_list => k_is)
      (case z_range => k_is)
      (case z_repr => k_is)
      (case z_sorted => k_is)
      (case z_sum => k_is)
      (case z_tuple => k_is)
      (case s_WrongCount_BowlError => k_is)
      (case s_WrongCount_ValueError => k_is)
      (case s_TooFar_BowlError => k_is)
      (case s_TooFar_ValueError => k_is)
      (case s_OnLine_BowlError => k_is)
      (case s_OnLine_ValueError => k_is)
      (case s_NoPoint_BowlError => k_is)
      (case s_NoPoint_ValueError => k_is)
      (case s_Repeated_BowlError => k_is)
      (case s_Repeated_ValueError => k_is)
      (case s_WrongCount_WrongCount => k_is)
      (case s_WrongCount_OnLine => k_is)
      (case s_WrongCount_TooFar => k_is)
      (case s_TooFar_TooFar => k_is)
      (case s_TooFar_OnLine => k_is)
      (case s_TooFar_WrongCount => k_is)
      (case s_OnLine_OnLine => k_is)
      (case s_OnLine_TooFar => k_is)
      (case s_OnLine_WrongCount => k_is)
      (case s_NoPoint_NoPoint => k_is)
      (case s_NoPoint_Repeated => k_is)
      (case s_NoPoint_TooFar => k_is)
      (case s_Repeated_Repeated => k_is)
      (case s_Repeated_NoPoint => k_is)
      (case s_Repeated_TooFar => k_is)

