import PyProof.Rows.All
import Wide.All
import OpenK.AllK
import Wide.FinOn
import HandS.ForMost
import HandS.ForExc
import HandS.Evl
import HandS.Star
import HandS.ExcInit
import HandS.ExcField
import HandS.IsInst
import HandS.Conv
import HandS.Flow
import HandS.ClsMeth
import HandS.CallSlots
import HandS.TryMany
import KE.KExcIs
import KE.GoesMore
import HandS.Wide
import HandS.OwnEq
import HandS.Style
import HandS.SetFor
import HandS.TupAny
import HandS.NoneIn
import KE.KMathGC
import HandS.SortRule
import OpenK.KMeth
import HandS.GenList
import HandS.GenCall
import HandS.IterNext
import PySem.Challenge.RW_everybowl_k02_tables_there_and_back
set_option Elab.async false
set_option linter.all false
set_option maxRecDepth 100000
set_option maxHeartbeats 4000000
/-! EB: own layer: values as data (PV), what gives them (EvP), promises that may raise (SpX), several named except clauses. -/
namespace EB
open PySem PySem.Spec PyProof.Rows L2 Evl
/-! ### several clauses, each with a name of its own -/
/-- what the clauses want of an exception out of the body: class, slot of the name, suite -/
def wClauses (K : PySem.W.Frag) (Wo : WX) (D : Ends) : List (Value × Nat × (Addr → Value → Option Addr → TS)) → WX
  | [] => Wo
  | (c, i, ts) :: r => fun cls d σ H => ∃ b, PySem.W.exmOne K cls c = some b ∧
      (b = true → ∀ a, H a = none → ts a cls d { nx := fun σ' H' => D.nx (σ'.set i none) H', rt := D.rt, bk := fun σ' H' => D.bk (σ'.set i none) H', ct := fun σ' H' => D.ct (σ'.set i none) H' } (σ.set i (some (.ref a))) H) ∧
      (b = false → wClauses K Wo D r cls d σ H)
inductive Clauses (X : Cx) : List ExceptHandler → List (Value × Nat × (Addr → Value → Option Addr → TS)) → Prop
  | nil : Clauses X [] []
  | cons {x n : Str} {c : Value} {i : Nat} {ts : Addr → Value → Option Addr → TS} {st0 : Stmt} {more : List Stmt} {p1 p2 : Pos} {hl : List ExceptHandler} {l : List (Value × Nat × (Addr → Value → Option Addr → TS))}
      (nm : Names X x c) (at_ : X.N[i]? = some n) (lc : X.env.kindOf n = some .local)
      (body : ∀ (a : Addr) (ob : Obj) (cls : Value) (d : Option Addr) (pn : List (Addr × Obj)), Zc cls d ob → (∃ vs, ob.data = .fields vs) → PSs (X.suite a ((a, ob) :: pn)) (st0 :: more) (ts a cls d))
      (rest : Clauses X hl l) : Clauses X (.ExceptHandler (some (.Name x p1)) (some n) (st0 :: more) p2 :: hl) ((c, i, ts) :: l)
section
variable {X : Cx} {body : List Stmt} {h0 : ExceptHandler} {hl : List ExceptHandler} {l : List (Value × Nat × (Addr → Value → Option Addr → TS))} {pos : Pos} {tb : WX → TS} {Wo : WX}
theorem ps_try_named (eS : X.stack = X.env :: X.outer) (eF : X.env.frame = some X.env.locals) (nd : X.N.Nodup) (tk : Takes X Wo)
    (hb : ∀ (W : WX) (pn : List (Addr × Obj)) (xe : Value → Shared → Prop), Takes (X.tr pn xe) W → PassesOwn (model X.prog X.w) X.A X.env xe → PSs (X.tr pn xe) body (tb W))
    (hh : Clauses X (h0 :: hl) l) : PS X (.Try body (h0 :: hl) [] [] pos) (fun D σ H => tb (wClauses X.K Wo D l) D σ H) := by
  refine ⟨fun pins s σ H D I hyp => ?_⟩
  have okX := I.ok
  have eFr : X.A.frames = some (X.env :: X.outer) := by rw [okX.frames, eS]
  refine wpAny_Try_except ?_
  refine wpAny_mono ((hb (wClauses X.K Wo D l) (X.pn ++ pins) (fun ev t1 => wpAny (model X.prog X.w) X.A (noteFrame ev X.env) (fun _ t2 => wpAny (model X.prog X.w) X.A (setFlight ev none) (fun _ t3 =>
    wpAny (model X.prog X.w) X.A (handleBy ev X.env (h0 :: hl)) (SP X pins D) X.xe t3) X.xe t2) X.xe t1) (fun u t xx => ?_) PassesOwn.looking).run [] s σ H D (I.toTry _) hyp) (fun fl t hsp => ?_) (fun _ _ z => z)
  · obtain ⟨a, B, tI, pins1, σ1, H1, cls, d, rfl, J0, keepB, upS, sky0, freeA, osE, bareE, wish⟩ := xx
    have J : Inv X pins σ1 H1 tI := J0.ofTry okX
    have sky1 : Sky B (X.env :: X.outer) a (Zc cls d) X.env.locals t.heap := by rw [← eS] <;> exact sky0
    show wpAny (model X.prog X.w) X.A (noteFrame (.ref a) X.env) _ _ _
    refine Sky.land Zc.steady eFr eF sky1 fun g3 f3 u3 => ?_
    have K3 : Inv X pins σ1 H1 { t with heap := g3 } := J.landed keepB f3.1 (upS.trans u3) osE bareE
    obtain ⟨ob3, fv3, at3, zc3, dat3⟩ := f3.there
    have off : a ∉ frs (X.env :: X.outer) := fun hm => by
      obtain ⟨_, o', e', hnf⟩ := f3.2.2.1.mem hm
      rw [at3] at e'
      cases e'
      exact hnf _ dat3
    have offL : a ≠ X.env.locals := fun z => off (List.mem_filterMap.mpr ⟨X.env, List.mem_cons_self, by rw [eF, z]⟩)
    have offF : a ∉ X.fs := fun hm => by
      obtain ⟨ee, he, q⟩ := List.mem_filterMap.mp hm
      exact off (List.mem_filterMap.mpr ⟨ee, List.mem_cons_of_mem _ he, q⟩)
    have S3 := K3.suite at3 dat3 freeA offL offF
    have run : ∀ {hl' : List ExceptHandler} {l' : List (Value × Nat × (Addr → Value → Option Addr → TS))}, Clauses X hl' l' → wClauses X.K Wo D l' cls d σ1 H1 →
        wpAny (model X.prog X.w) X.A (handleBy (.ref a) X.env hl') (SP X pins D) X.xe { t with heap := g3 } := by
      intro hl' l' hk
      induction hk with
      | nil =>
        intro wsh
        refine wpAny_handleBy_nil ?_
        obtain ⟨q1, q2, q3, ob, fv, T, oT, tsl, hat, hzc, hdat, hone, hr⟩ := id f3
        unfold PySem.passOn
        refine wpAny_bind (wpAny_field hat hdat hone ?_)
        rw [if_neg (show ¬ ((Value.ref T == Value.none) = true) by simp)]
        have last : wpAny (model X.prog X.w) X.A (setFlight (.ref a) X.env.frame) (fun _ t4 => wpAny (model X.prog X.w) X.A (throw (.ref a) : Sem Flow) (SP X pins D) X.xe t4) X.xe { t with heap := g3 } := by
          rw [eF]
          refine HandSPX.setFlight_upZ f3 fun g4 hh4 u4 => wpAny_throw (tk _ _ ⟨a, B, tI, pins, σ1, H1, cls, d, rfl, J, keepB, (upS.trans u3).trans u4, .inr (.inr (by rw [eS] <;> exact hh4)), freeA, osE, bareE, wsh⟩)
        first
          | exact wpAny_bind (wpAny_pure (wpAny_bind last))
          | exact wpAny_bind last
      | @cons x n c i ts st0 more p1 p2 hl2 l2 nm at_ lc bod rest ih =>
        intro wsh
        obtain ⟨b, isB, yes, no⟩ := wsh
        refine wpAny_handleBy_cons (codeAny_handlers_test ?_) (by intro q; cases q)
        have lookT : PySem.W.Looks (model X.prog X.w) g3 (typeOf (.ref a)) cls := fun _ _ _ _ k q => wpAny_typeOf_ref (k _ _ at3) (by rw [zc3.1] <;> exact q)
        have lookM := PySem.W.exm_one (M := model X.prog X.w) K3.kIn lookT isB
        have ask : ∀ {Q : Value → Shared → Prop} {E : Value → Shared → Prop}, Q c { t with heap := g3 } → wpAny (model X.prog X.w) (X.A.mark (some (.ref a))) (eval (.Name x p1) X.env) Q E { t with heap := g3 } := fun {Q E} q => by
          obtain ⟨gl, dbg, hm | ⟨hm, hv, hnn⟩⟩ := nm
          · exact ld_glob (X := X.suite a ((a, ob3) :: (X.pn ++ pins))) S3 gl hm q dbg
          · exact ld_blt (X := X.suite a ((a, ob3) :: (X.pn ++ pins))) S3 gl hm hv q hnn dbg
        refine ask (lookM.here ?_)
        cases b with
        | true =>
          refine codeAny_handlers_suite_as (HandSPX.lands_againZ f3 fun g4 f4 u4 => ?_)
          have K4 : Inv X pins σ1 H1 { t with heap := g4 } := J.landed keepB f4.1 ((upS.trans u3).trans u4) osE bareE
          obtain ⟨ob4, fv4, at4, zc4, dat4⟩ := f4.there
          have S4 := K4.suite at4 dat4 freeA offL offF
          refine store_ok (X := X.suite a ((a, ob4) :: (X.pn ++ pins))) (v := .ref a) S4 nd at_ (.inl lc) rfl (fun t5 S5 => ?_) (.inr lc)
          refine wpAny_mono ((bod a ob4 cls d (X.pn ++ pins) zc4 ⟨_, dat4⟩).run [] t5 _ H1 _ S5 (yes rfl a freeA)) (fun fl t6 hsp => ?_) (fun _ _ z => False.elim z)
          have fin6 : ∀ {σ6 : L2.St} {H6 : Hp} {Q : Shared → Prop}, Inv (X.suite a ((a, ob4) :: (X.pn ++ pins))) [] σ6 H6 t6 → (∀ t7, Inv X pins (σ6.set i none) H6 t7 → Q t7) →
              wpAny (model X.prog X.w) X.A (do bindName X.env n .none; unbindBehindTheSuite X.env n p2) (fun _ t7 => Q t7) X.xe t6 := fun S6 hq => gone_ok (S6.unsuite okX) nd at_ lc hq
          cases fl with
          | next =>
            obtain ⟨σ6, H6, S6, q6⟩ := hsp
            exact fin6 S6 fun t7 J7 => ⟨_, _, J7, q6⟩
          | brk =>
            obtain ⟨σ6, H6, S6, q6⟩ := hsp
            exact fin6 S6 fun t7 J7 => ⟨_, _, J7, q6⟩
          | cont =>
            obtain ⟨σ6, H6, S6, q6⟩ := hsp
            exact fin6 S6 fun t7 J7 => ⟨_, _, J7, q6⟩
          | ret u6 =>
            obtain ⟨v6, σ6, H6, S6, r6, q6⟩ := hsp
            exact fin6 S6 fun t7 J7 => ⟨_, _, _, J7, r6, q6⟩
        | false =>
          show wpAny _ X.A (handleBy (.ref a) X.env hl2) _ _ _
          exact ih (no rfl)
    exact run hh wish
  · cases fl with
    | next =>
      obtain ⟨σ1, H1, J, q⟩ := hsp
      exact wpAny_execs_nil ⟨σ1, H1, J.ofTry okX, q⟩
    | brk =>
      obtain ⟨σ1, H1, J, q⟩ := hsp
      exact ⟨σ1, H1, J.ofTry okX, q⟩
    | cont =>
      obtain ⟨σ1, H1, J, q⟩ := hsp
      exact ⟨σ1, H1, J.ofTry okX, q⟩
    | ret u1 =>
      obtain ⟨v1, σ1, H1, J, rv, q⟩ := hsp
      exact ⟨v1, σ1, H1, J.ofTry okX, rv, q⟩
end
/-! ### isinstance of an exception that a suite holds (it may have a dict of its own) -/
structure ExK (K : PySem.W.Frag) (C : Addr) : Prop where
  cl : (PySem.W.clsIn K C).isSome = true
  ga : PySem.W.findIn K (.ref C) "__getattribute__" = some (some (.builtin "BaseException.__getattribute__"))
  gt : PySem.W.findIn K (.ref C) "__getattr__" = some none
  sb : PySem.W.subIn K (.ref C) (.type "BaseException") = some true
  ca : PySem.W.findIn K (.ref C) "__class__" = some (some (.builtin "object.__class__"))
  gn : PySem.W.specialIn K (.builtin "object.__class__") "__get__" = some (some (.builtin "getset_descriptor.__get__"))
  tk : PySem.W.takesIn K (.builtin "object.__class__") = some true
  mo : PySem.W.mroIn K C (.type "object") = some true
/-- isinstance(e, c): a the exception, cls its class, d its dict -/
def rIsEx (K : PySem.W.Frag) (a : Addr) (cls : Value) (d : Option Addr) : List V → Hp → VK → Prop := fun xs H Q => ∃ (C : Addr) (c : V) (cv : Value) (b : Bool) (dd : Addr) (fs : List (Str × V)), cls = .ref C ∧ ExK K C ∧ xs = [.ref a, c] ∧ d = some dd ∧ H dd = some (.xd fs) ∧ ClsV c cv ∧ PySem.W.kitOne K (.ref C) cv = some b ∧ Q (.bl b) H
/-- isinstance(e, (c1, c2, ..)) -/
def rIsExT (K : PySem.W.Frag) (a : Addr) (cls : Value) (d : Option Addr) : List V → Hp → VK → Prop := fun xs H Q => ∃ (C : Addr) (tp : Addr) (cs : List V) (us : List Value) (b : Bool) (dd : Addr) (fs : List (Str × V)), cls = .ref C ∧ ExK K C ∧ xs = [.ref a, .ref tp] ∧ d = some dd ∧ H dd = some (.xd fs) ∧ H tp = some (.tup cs) ∧ Paired ClsV cs us ∧ PySem.W.kitAny K (.ref C) us = some b ∧ Q (.bl b) H
section
variable {X : Cx} {a C : Addr} {cls : Value} {d : Option Addr} {ob : Obj} {pn : List (Addr × Obj)}
theorem inst_here {pins : List (Addr × Obj)} {σ : L2.St} {H : Hp} {s : Shared} {dd : Addr} {fs : List (Str × V)} (hz : Zc (.ref C) d ob) (hf : ∃ vs, ob.data = .fields vs) (I : Inv (X.suite a ((a, ob) :: pn)) pins σ H s) (ed : d = some dd) (hd : H dd = some (.xd fs)) : ∃ od, PySem.W.InstAt s.heap a ob C (some od) := by
  subst ed
  obtain ⟨vs, hv⟩ := hf
  obtain ⟨got, _⟩ := I.pin (a, ob) (List.mem_append_left _ List.mem_cons_self)
  obtain ⟨mA, hns, _⟩ := (show ObjOk X.prog X.w H s.heap dd (.xd fs) from I.hok dd _ hd)
  obtain ⟨od, ho, _⟩ := lookIn_ns hns
  exact ⟨od, got, hz.1, by unfold PySem.W.notCls; rw [hv] <;> rfl, by rw [hz.2] <;> exact ho⟩
theorem call_isEx (hz : Zc cls d ob) (hf : ∃ vs, ob.data = .fields vs) : CallR (X.suite a ((a, ob) :: pn)) (.builtin "isinstance") (rIsEx X.K a cls d) := by
  intro pins s σ H xs us Q I r h
  obtain ⟨C, c, cv, b, dd, fs, rfl, T, rfl, ed, hd, hc, e, q⟩ := h
  obtain ⟨u1, u2, rfl, r1, r2⟩ := vals2 r
  cases (show u1 = Value.ref a from r1)
  have e2 := hc.eq r2
  subst e2
  obtain ⟨od, J⟩ := inst_here hz hf I ed hd
  exact PySem.W.kia_one (PySem.W.kitx_exc T.cl T.ga T.gt T.sb T.ca T.gn T.tk T.mo) I.kIn J e (fun z => nomatch z) fun tk => ⟨.bl b, H, I.tok tk, rfl, q⟩
theorem call_isExT (hz : Zc cls d ob) (hf : ∃ vs, ob.data = .fields vs) : CallR (X.suite a ((a, ob) :: pn)) (.builtin "isinstance") (rIsExT X.K a cls d) := by
  intro pins s σ H xs us Q I r h
  obtain ⟨C, tp, cs, ws, b, dd, fs, rfl, T, rfl, ed, hd, hT, hc, e, q⟩ := h
  obtain ⟨u1, u2, rfl, r1, r2⟩ := vals2 r
  cases (show u1 = Value.ref a from r1)
  cases (show u2 = Value.ref tp from r2)
  obtain ⟨od, J⟩ := inst_here hz hf I ed hd
  obtain ⟨_, its, rv, ot, g1, g2, n, g3⟩ := (show ObjOk X.prog X.w H s.heap tp (.tup cs) from I.hok tp _ hT)
  have e3 := ClsV.all hc rv
  subst e3
  obtain ⟨oc, odd, dt, sl⟩ := ot
  simp only at g2 g3
  subst g2 g3
  exact PySem.W.kia_tup (PySem.W.kitx_exc T.cl T.ga T.gt T.sb T.ca T.gn T.tk T.mo) I.kIn J g1 e (fun z => nomatch z) fun tk => ⟨.bl b, H, I.tok tk, rfl, q⟩
end
end EB

/-! EB2: enumerate over a tuple. -/
namespace EB
open PySem PySem.Spec PyProof.Rows L2 Evl
open AutoSeq1 (wpAny_loadPart')
theorem enumT_new (t : Addr) (ob : Obj) (xs : Array Value) (k : Nat) (hc : ob.cls = .type "tuple") (hd : ob.data = .seq xs k) :
    Meets (Builtin.«enumerate.__new__» ⟨[.type "enumerate", .ref t], []⟩) (fun _ R s => s.heap.get? t = some ob ∧
      R (.ok (.ret (.ref (s.heap.push { cls := .type "tuple_iterator", data := .fields #[.ref t, .int 0 0] }).objs.size)))
        { s with heap := (s.heap.push { cls := .type "tuple_iterator", data := .fields #[.ref t, .int 0 0] }).push { cls := .type "enumerate", data := .fields #[.none, .bool false, .ref s.heap.objs.size, rawInt 0, .none, .none] } }) :=
  .of_wp fun prog w A R s h => by
    obtain ⟨hp, g, d, tk, os⟩ := s
    obtain ⟨ht, h⟩ := h
    have sub_ := sub_enumerate
    have hT : Heap.IsTuple (Shared.heap ⟨hp, g, d, tk, os⟩) t xs := ⟨_, ht, hc, k, hd⟩
    wp_walk using wpAny_loadPart' ht
    refine wpAny_stack_any fun st => wpAny_pure ?_
    split
    · rename_i c _ _ _ _ _
      cases (c == Value.type "enumerate")
      · wp_walk using wpAny_loadPart' ht, wpAny_pyIter_tuple hT
        exact ⟨_, rfl, h⟩
      · wp_walk using wpAny_loadPart' ht, wpAny_pyIter_tuple hT
        exact ⟨_, rfl, h⟩
    · wp_walk using wpAny_loadPart' ht, wpAny_pyIter_tuple hT
      exact ⟨_, rfl, h⟩
section
variable {prog : Program} {w : World} {A : Around} {E : Value → Shared → Prop} {s : Shared}
theorem enumT_call {t : Addr} {xs : Array Value} {Q : Value → Shared → Prop} (hT : s.heap.IsTuple t xs)
    (fin : ∀ g, IsEnum g (s.heap.objs.size + 1) s.heap.objs.size 0 .none → g.IsTupleIter s.heap.objs.size t 0 → g.objs.size = s.heap.objs.size + 2 →
      (∀ b o, s.heap.get? b = some o → g.get? b = some o) → Q (.ref (s.heap.objs.size + 1)) { s with heap := g }) :
    wpAny (model prog w) A (call (.type "enumerate") [.ref t]) Q E s := by
  obtain ⟨ob, ht, hc, k, hd⟩ := hT
  refine callType_new F.called_enumerate (by decide) (F.typeCall_enumerate_1 _) (F.newCall_enumerate_1 _) (fun z => F.args_object_init_2 z _) F.entry_enumerate_new (enumT_new t ob xs k hc hd) ⟨ht, ?_⟩
  have sz : (s.heap.push { cls := .type "tuple_iterator", data := .fields #[.ref t, .int 0 0] }).objs.size = s.heap.objs.size + 1 := Heap.size_push ..
  show _ ∧ _
  rw [sz]
  have en : IsEnum ((s.heap.push { cls := .type "tuple_iterator", data := .fields #[.ref t, .int 0 0] }).push
      { cls := .type "enumerate", data := .fields #[.none, .bool false, .ref s.heap.objs.size, rawInt 0, .none, .none] }) (s.heap.objs.size + 1) s.heap.objs.size 0 .none := by
    have z := Heap.get?_push_size (s.heap.push { cls := .type "tuple_iterator", data := .fields #[.ref t, .int 0 0] })
      (o := { cls := .type "enumerate", data := .fields #[.none, .bool false, .ref s.heap.objs.size, rawInt 0, .none, .none] }) rfl
    rw [sz] at z
    exact z
  refine ⟨⟨_, en, rfl⟩, fin _ en ⟨_, Heap.get?_push_of_some _ (Heap.get?_push_size _ rfl), rfl, rfl⟩ (by rw [Heap.size_push, sz]) fun b o x => Heap.get?_push_of_some _ (Heap.get?_push_of_some _ x)⟩
end
/-- the tuple at a, each item in a new pair -/
def IteT (K : PySem.W.Frag) (a : Addr) : It :=
  ⟨fun i H => ∃ (xs : List V) (x : V), SqT K H a xs ∧ xs[i]? = some x, fun i H v H' => ∃ T x, v = .ref T ∧ H T = none ∧ H' = upd H T (.tup [.int (i : Nat), x]) ∧ ∀ xs, SqT K H a xs → xs[i]? = some x, fun i H => ∃ xs : List V, SqT K H a xs ∧ xs.length ≤ i⟩
theorem tup_inj {X : Cx} {pins : List (Addr × Obj)} {σ : L2.St} {H : Hp} {s : Shared} {a : Addr} {xs ys : List V} (I : Inv X pins σ H s) (h : SqT X.K H a xs) (h2 : SqT X.K H a ys) : xs = ys := by
  first
    | exact I.tuple_inj h h2
    | exact I.tup_inj h h2
theorem turn_enumT {P : Program} {w : World} {K : PySem.W.Frag} {elts : List Expr} {kk : Nat} {tpos : Pos} (a e it : Addr) :
    Turn P w K (.Tuple elts kk tpos) (IteT K a) [e, it] e (fun i h => (∃ old, IsEnum h e it ((i : Nat) : Int) old) ∧ h.IsTupleIter it a i ∧ e ≠ it) where
  mem := by simp
  obj := fun i h st b hb => by
    obtain ⟨⟨old, he⟩, ⟨o, ho, hc, hd⟩, _⟩ := st
    have z : b = e ∨ b = it := by simpa using hb
    rcases z with z | z
    · rw [z]
      exact ⟨_, he, fun v q => nomatch q⟩
    · rw [z]
      exact ⟨o, ho, fun v q => by rw [hd] at q <;> cases q⟩
  keep := fun i h g st k => let ⟨⟨old, he⟩, hi, hne⟩ := st; ⟨⟨old, k e (by simp) _ he⟩, hi.at fun o q => k it (by simp) o q, hne⟩
  item := by
    intro X hP hw hK hcalm i pins s σ H E I hf st hg
    subst hP hw hK
    obtain ⟨⟨old, he⟩, hit, hne⟩ := st
    obtain ⟨xs, x, hq, hx⟩ := hg
    obtain ⟨its, rv, p, hz⟩ := I.tuple hq
    obtain ⟨u, hu, ru⟩ := rv.get hx
    have eLt : e < s.heap.objs.size := Heap.lt_size he
    have iLt : it < s.heap.objs.size := by
      obtain ⟨_, q, _⟩ := hit
      exact Heap.lt_size q
    have hT : s.heap.IsTuple a its.toArray := p
    have nea : a ≠ it := by
      intro z
      obtain ⟨o1, h1, c1, _⟩ := hit
      obtain ⟨o2, h2, c2, _⟩ := hT
      rw [z, h1] at h2
      cases h2
      rw [c1] at c2
      exact absurd c2 (by decide)
    have nef : e ∉ [it, a] := by
      intro z
      rcases List.mem_cons.mp z with z | z
      · exact hne z
      · have z' : e = a := by simpa using z
        obtain ⟨o2, h2, c2, _⟩ := hT
        rw [← z', he] at h2
        cases h2
        exact absurd (show Value.type "enumerate" = Value.type "tuple" from c2) (by decide)
    have ilt : i < its.toArray.size := by
      have := (List.getElem?_eq_some_iff.mp hu).1
      simpa using this
    refine wpAny_pyNext_enum_itemD (PySem.Draws.tuple (A := X.A.in1) (I.ok.hd hcalm) it a nea its.toArray) he ⟨hit, hT⟩ ilt hne nef fun y g tk hy ho hst hTT hsz hk => ?_
    have ey : y = u := by
      have z : its.toArray[i]? = some u := by simpa using hu
      have hy' : its.toArray[i]? = some y := hy
      rw [z] at hy'
      exact (Option.some.inj hy').symm
    subst ey
    refine ⟨_, rfl, wpAny_letOwnedTupleGo_enum (s := { s with heap := g, toks := tk + 1 }) ho fun g2 he2 sb => ?_⟩
    have hT2 : g2.get? s.heap.objs.size = some { cls := .type "tuple", data := .seq #[.int i tk, y] } := (sb.2 _ (Nat.ne_of_gt eLt)).trans hTT
    have new : ObjOk X.prog X.w (upd H s.heap.objs.size (.tup [.int (i : Nat), x])) g2 s.heap.objs.size (.tup [.int (i : Nat), x]) :=
      ⟨by show 2 ≤ sizeLine; decide, [.int i tk, y], .cons ⟨_, rfl⟩ (.cons ru .nil), ⟨_, hT2, rfl, _, rfl⟩⟩
    have I1 : Inv X pins σ (upd H s.heap.objs.size (.tup [.int (i : Nat), x])) { s with heap := g2, toks := tk + 1 } :=
      I.turnedNew (ch := [e, it]) (fun b ob hb q => (sb.2 b (fun z => hb (by simp [z]))).trans (hk b ob (fun z => hb (by simp [z])) (fun z => hb (by simp [z])) q)) hf (Nat.le_refl _) new
    refine ⟨.ref s.heap.objs.size, _, I1, rfl, ⟨_, x, rfl, I.hok.fresh (Nat.le_refl _), rfl, fun ys hy => by rw [tup_inj I hy hq] <;> exact hx⟩, ⟨⟨y, ?_⟩, hst.1.at fun o q => (sb.2 it (Ne.symm hne)).trans q, hne⟩, fun b hb => ?_⟩
    · have e1 : ((i + 1 : Nat) : Int) = (i : Int) + 1 := by omega
      rw [e1]
      exact he2
    · have hb2 : b < s.heap.objs.size := by
        have z : b = e ∨ b = it := by simpa using hb
        rcases z with z | z
        · rw [z]; exact eLt
        · rw [z]; exact iLt
      rw [upd_ne (Nat.ne_of_lt hb2)]
      exact (hf b hb).1
  done := by
    intro X hP hw hK hcalm i pins s σ H E I hf st hg
    subst hP hw hK
    obtain ⟨⟨old, he⟩, hit, hne⟩ := st
    obtain ⟨xs, hq, hx⟩ := hg
    obtain ⟨its, rv, p, hz⟩ := I.tuple hq
    obtain ⟨f0, f1, f2, f3, f4, f5⟩ := hf it (by simp)
    have hl := rv.length
    have hT : s.heap.IsTuple a its.toArray := p
    have nea : a ≠ it := by
      intro z
      obtain ⟨o1, h1, c1, _⟩ := hit
      obtain ⟨o2, h2, c2, _⟩ := hT
      rw [z, h1] at h2
      cases h2
      rw [c1] at c2
      exact absurd c2 (by decide)
    unfold pyNext
    have hTy : s.TypeIs (.ref e) "enumerate" := ⟨_, he, rfl⟩
    refine wpAny_bind (wpAny_attempt (wpAny_callSpecial?_slot (name := Str.ofString "__next__") hTy F.slot_enumerate_next
      (wpAny_call_entry F.slot_enumerate_next hTy F.entry_enumerate_next ?_ (F.args_enumerate_next_1 _))))
    show wpAny _ _ (field (.ref e) 2 >>= _) _ _ _
    refine wpAny_bind (wpAny_field he rfl (x := .ref it) rfl ?_)
    refine wpAny_bind (wpAny_nextOf_tuple_end (I.ok.hd hcalm) hit hT (by simp; omega) fun g x he' hx' => ?_)
    obtain ⟨o, ho, hc⟩ := hx'
    refine wpAny_bind (wpAny_isInstance (T := "StopIteration") (b := true) ⟨o, ho, hc⟩ isSubtype_stop ?_)
    exact wpAny_pure ⟨rfl, I.turned (t' := s.toks) (fun b o hb q => he' b o hb q) f0 f1 f3 f4 f5⟩
  self := fun A i s Q E st h => let ⟨⟨_, he⟩, _⟩ := st; wpAny_pyIter_enum he h
def iEnumT (K : PySem.W.Frag) (ta : TA) : TI := fun σ H R => ta σ H fun vs H1 => ∃ a xs, vs = [.ref a] ∧ SqT K H1 a xs ∧ R (IteT K a) H1
theorem pi_enumT {X : Cx} {e : Expr} {ta : TA} {p pos tpos : Pos} {elts : List Expr} {kk : Nat} (hg : Gl X "enumerate") (hm : X.mg "enumerate" = none) (ha : PA X [e] ta) (hs : starEach [e] X.env = [(false, eval e X.env)] := by rfl) :
    PI X (.Tuple elts kk tpos) (.Call (.Name "enumerate" p) [e] [] pos) (iEnumT X.K ta) := by
  refine ⟨fun pins s σ H R I h => ?_⟩
  refine Call_ (ld_blt I hg hm boot_enumerate (PyProof.Rows.callWith_type1 (thn (ha.run pos pins s σ H _ I h) fun us s1 ⟨vs, H1, I1, r1, a, xs, ex, hq, q⟩ => ?_) hs rfl))
  subst ex
  cases r1 with
  | cons r rr =>
    cases rr
    cases r
    obtain ⟨its, rv, p', hz⟩ := I1.tuple hq
    have hT : s1.heap.IsTuple a its.toArray := p'
    refine enumT_call hT fun g he hit hsz hk => wpAny_pyIter_enum he ?_
    have I2 : Inv X pins σ H1 { s1 with heap := g } := I1.kept (t' := s1.toks) hk
    refine ⟨s1.heap.objs.size + 1, [s1.heap.objs.size + 1, s1.heap.objs.size], _, _, H1, rfl, I2, turn_enumT a (s1.heap.objs.size + 1) s1.heap.objs.size, ⟨⟨.none, he⟩, hit, Nat.succ_ne_self _⟩, fun b hb => ?_, q⟩
    have hle : s1.heap.objs.size ≤ b := by
      have z : b = s1.heap.objs.size + 1 ∨ b = s1.heap.objs.size := by simpa using hb
      rcases z with z | z
      · rw [z]
        exact Nat.le_add_right _ _
      · rw [z]
        exact Nat.le_refl _
    exact I1.fpOk hle (I1.hok.fresh hle)
end EB

/-! EB3: what is known of the slots (Kn), what an expression comes to (JE), a test (JT), arguments (JA), a statement (JS). -/
namespace EB
open PySem PySem.Spec PyProof.Rows L2 Evl
/-- what is known of a value; it stays known while the heap grows -/
structure PV where
  p : Hp → V → Prop
  mn : ∀ {H H' : Hp} {v : V}, Ex H H' → p H v → p H' v
abbrev Kn := List (Option PV)
mutual
theorem dp_mono {K : PySem.W.Frag} {H H' : Hp} (e : Ex H H') : ∀ {v : V} {d : PyData}, Dp K H v d → Dp K H' v d
  | _, _, .non => .non
  | _, _, .bl b => .bl b
  | _, _, .int i => .int i
  | _, _, .str x => .str x
  | _, _, .lst h a => .lst (ex_l e h) (dpAll_mono e a)
  | _, _, .tup h a => .tup (ex_t e h) (dpAll_mono e a)
theorem dpAll_mono {K : PySem.W.Frag} {H H' : Hp} (e : Ex H H') : ∀ {vs : List V} {ds : List PyData}, DpAll K H vs ds → DpAll K H' vs ds
  | _, _, .nil => .nil
  | _, _, .cons h t => .cons (dp_mono e h) (dpAll_mono e t)
end
def dv (K : PySem.W.Frag) (d : PyData) : PV := ⟨fun H v => Dp K H v d, fun e h => dp_mono e h⟩
/-- exactly this value -/
def xv (v : V) : PV := ⟨fun _ u => u = v, fun _ h => h⟩
theorem dp_int {K : PySem.W.Frag} {H : Hp} {v : V} {i : Int} (h : Dp K H v (.int i)) : v = .int i := by cases h; rfl
theorem dp_bl {K : PySem.W.Frag} {H : Hp} {v : V} {b : Bool} (h : Dp K H v (.bool b)) : v = .bl b := by cases h; rfl
theorem dp_str {K : PySem.W.Frag} {H : Hp} {v : V} {x : Str} (h : Dp K H v (.str x)) : v = .str x := by cases h; rfl
theorem dp_tup {K : PySem.W.Frag} {H : Hp} {v : V} {ds : List PyData} (h : Dp K H v (.tuple ds)) : ∃ a xs, v = .ref a ∧ SqT K H a xs ∧ DpAll K H xs ds := by
  cases h with
  | tup h a => exact ⟨_, _, rfl, h, a⟩
theorem dp_lst {K : PySem.W.Frag} {H : Hp} {v : V} {ds : List PyData} (h : Dp K H v (.list ds)) : ∃ a xs, v = .ref a ∧ SqL K H a xs ∧ DpAll K H xs ds := by
  cases h with
  | lst h a => exact ⟨_, _, rfl, h, a⟩
theorem dpLength {K : PySem.W.Frag} {H : Hp} : ∀ {vs : List V} {ds : List PyData}, DpAll K H vs ds → vs.length = ds.length
  | _, _, .nil => rfl
  | _, _, .cons _ t => congrArg (· + 1) (dpLength t)
theorem dpGet {K : PySem.W.Frag} {H : Hp} : ∀ {vs : List V} {ds : List PyData} {i : Nat} {d : PyData}, DpAll K H vs ds → ds[i]? = some d → ∃ v, vs[i]? = some v ∧ Dp K H v d
  | _, _, _, _, .nil, h => by simp at h
  | _, _, 0, _, .cons h _, e => by
    simp at e
    subst e
    exact ⟨_, rfl, h⟩
  | _, _, i + 1, _, .cons _ t, e => by
    obtain ⟨v, h1, h2⟩ := dpGet (i := i) t (by simpa using e)
    exact ⟨v, by simpa using h1, h2⟩
theorem dpApp {K : PySem.W.Frag} {H : Hp} : ∀ {vs us : List V} {ds es : List PyData}, DpAll K H vs ds → DpAll K H us es → DpAll K H (vs ++ us) (ds ++ es)
  | _, _, _, _, .nil, s => s
  | _, _, _, _, .cons h t, s => .cons h (dpApp t s)
theorem dpTake {K : PySem.W.Frag} {H : Hp} : ∀ {vs : List V} {ds : List PyData} (n : Nat), DpAll K H vs ds → DpAll K H (vs.take n) (ds.take n)
  | _, _, 0, _ => .nil
  | _, _, _ + 1, .nil => .nil
  | _, _, n + 1, .cons h t => .cons h (dpTake n t)
theorem dpDrop {K : PySem.W.Frag} {H : Hp} : ∀ {vs : List V} {ds : List PyData} (n : Nat), DpAll K H vs ds → DpAll K H (vs.drop n) (ds.drop n)
  | _, _, 0, h => h
  | _, _, _ + 1, .nil => .nil
  | _, _, n + 1, .cons _ t => dpDrop n t
theorem dpAll_ints {K : PySem.W.Frag} {H : Hp} : ∀ (ns : List Int), DpAll K H (ns.map V.int) (ns.map PyData.int)
  | [] => .nil
  | n :: r => .cons (.int n) (dpAll_ints r)
theorem dpAll_ints_eq {K : PySem.W.Frag} {H : Hp} : ∀ {vs : List V} {ns : List Int}, DpAll K H vs (ns.map PyData.int) → vs = ns.map V.int
  | _, [], h => by cases h; rfl
  | _, n :: r, h => by
    cases h with
    | cons h1 h2 => rw [dp_int h1, dpAll_ints_eq h2] <;> rfl
/-! ### the slots -/
def Sl (H : Hp) (σ : L2.St) (ps : Kn) : Prop := σ.length = ps.length ∧ ∀ (i : Nat) (P : PV), ps[i]? = some (some P) → ∃ v, σ[i]? = some (some v) ∧ P.p H v
theorem Sl.mono {H H' : Hp} {σ : L2.St} {ps : Kn} (S : Sl H σ ps) (e : Ex H H') : Sl H' σ ps := ⟨S.1, fun i P h => by
  obtain ⟨v, h1, h2⟩ := S.2 i P h
  exact ⟨v, h1, P.mn e h2⟩⟩
theorem Sl.set {H : Hp} {σ : L2.St} {ps : Kn} {P : PV} {v : V} (S : Sl H σ ps) (i : Nat) (h : P.p H v) : Sl H (σ.set i (some v)) (ps.set i (some P)) := by
  refine ⟨by rw [List.length_set, List.length_set, S.1], fun j R hj => ?_⟩
  by_cases e : i = j
  · subst e
    have hl : i < ps.length := by
      have := (List.getElem?_eq_some_iff.mp hj).1
      simpa using this
    rw [List.getElem?_set_self hl] at hj
    cases hj
    exact ⟨v, List.getElem?_set_self (by rw [S.1]; exact hl), h⟩
  · rw [List.getElem?_set_ne e] at hj
    obtain ⟨u, h1, h2⟩ := S.2 j R hj
    exact ⟨u, by rw [List.getElem?_set_ne e]; exact h1, h2⟩
theorem Sl.forget {H : Hp} {σ : L2.St} {ps : Kn} (S : Sl H σ ps) (i : Nat) (x : Option V) : Sl H (σ.set i x) (ps.set i none) := by
  refine ⟨by rw [List.length_set, List.length_set, S.1], fun j R hj => ?_⟩
  by_cases e : i = j
  · subst e
    have hl : i < ps.length := by
      have := (List.getElem?_eq_some_iff.mp hj).1
      simpa using this
    rw [List.getElem?_set_self hl] at hj
    cases hj
  · rw [List.getElem?_set_ne e] at hj
    obtain ⟨u, h1, h2⟩ := S.2 j R hj
    exact ⟨u, by rw [List.getElem?_set_ne e]; exact h1, h2⟩
/-- less is known -/
def Weak : Kn → Kn → Prop
  | [], [] => True
  | p :: ps, q :: qs => (q = none ∨ q = p) ∧ Weak ps qs
  | _, _ => False
theorem Weak.rfl_ : ∀ ps : Kn, Weak ps ps
  | [] => trivial
  | _ :: r => ⟨.inr rfl, Weak.rfl_ r⟩
theorem Weak.len : ∀ {ps qs : Kn}, Weak ps qs → ps.length = qs.length
  | [], [], _ => rfl
  | _ :: _, _ :: _, h => congrArg (· + 1) (Weak.len h.2)
theorem Weak.get : ∀ {ps qs : Kn} {i : Nat} {P : PV}, Weak ps qs → qs[i]? = some (some P) → ps[i]? = some (some P)
  | [], [], _, _, _, e => by simp at e
  | p :: ps, q :: qs, 0, P, h, e => by
    simp at e ⊢
    rcases h.1 with z | z
    · rw [z] at e; cases e
    · rw [← z]; exact e
  | p :: ps, q :: qs, i + 1, P, h, e => by
    simp at e ⊢
    exact Weak.get h.2 e
theorem Sl.weak {H : Hp} {σ : L2.St} {ps qs : Kn} (S : Sl H σ ps) (w : Weak ps qs) : Sl H σ qs := ⟨by rw [S.1, w.len], fun i P h => S.2 i P (w.get h)⟩
/-- known of several values, one after the other -/
inductive AllP (H : Hp) : List V → List PV → Prop
  | nil : AllP H [] []
  | cons {v : V} {vs : List V} {P : PV} {Ps : List PV} : P.p H v → AllP H vs Ps → AllP H (v :: vs) (P :: Ps)
theorem AllP.mono {H H' : Hp} (e : Ex H H') : ∀ {vs : List V} {Ps : List PV}, AllP H vs Ps → AllP H' vs Ps
  | _, _, .nil => .nil
  | _, _, .cons h t => .cons (PV.mn _ e h) (AllP.mono e t)
theorem AllP.length {H : Hp} : ∀ {vs : List V} {Ps : List PV}, AllP H vs Ps → vs.length = Ps.length
  | _, _, .nil => rfl
  | _, _, .cons _ t => congrArg (· + 1) (AllP.length t)
theorem AllP.dv {K : PySem.W.Frag} {H : Hp} : ∀ {vs : List V} {ds : List PyData}, AllP H vs (ds.map (dv K)) → DpAll K H vs ds
  | _, [], h => by cases h; exact .nil
  | _, d :: r, h => by
    cases h with
    | cons h1 h2 => exact .cons h1 (AllP.dv h2)
theorem AllP.of_dv {K : PySem.W.Frag} {H : Hp} : ∀ {vs : List V} {ds : List PyData}, DpAll K H vs ds → AllP H vs (ds.map (EB.dv K))
  | _, _, .nil => .nil
  | _, _, .cons h t => .cons h (AllP.of_dv t)
theorem AllP.get {H : Hp} : ∀ {vs : List V} {Ps : List PV} {i : Nat} {P : PV}, AllP H vs Ps → Ps[i]? = some P → ∃ v, vs[i]? = some v ∧ P.p H v
  | _, _, _, _, .nil, e => by simp at e
  | _, _, 0, _, .cons h _, e => by
    simp at e
    subst e
    exact ⟨_, rfl, h⟩
  | _, _, i + 1, _, .cons _ t, e => by
    obtain ⟨v, h1, h2⟩ := AllP.get (i := i) t (by simpa using e)
    exact ⟨v, by simpa using h1, h2⟩
theorem AllP.app {H : Hp} : ∀ {vs us : List V} {Ps Qs : List PV}, AllP H vs Ps → AllP H us Qs → AllP H (vs ++ us) (Ps ++ Qs)
  | _, _, _, _, .nil, s => s
  | _, _, _, _, .cons h t, s => .cons h (AllP.app t s)
def entry (N : List Str) (Ps : List PV) : Kn := Ps.map some ++ List.replicate (N.length - Ps.length) none
theorem Sl.start {H : Hp} {N : List Str} {vs : List V} {Ps : List PV} (h : AllP H vs Ps) : Sl H (L2.start N vs) (entry N Ps) := by
  refine ⟨by unfold L2.start entry; simp [h.length], fun i P e => ?_⟩
  unfold entry at e
  by_cases hi : i < Ps.length
  · rw [List.getElem?_append_left (by simpa using hi)] at e
    rw [List.getElem?_map] at e
    cases q : Ps[i]? with
    | none => rw [q] at e; simp at e
    | some R =>
      rw [q] at e
      have : R = P := by simpa using e
      subst this
      obtain ⟨v, h1, h2⟩ := h.get q
      refine ⟨v, ?_, h2⟩
      unfold L2.start
      rw [List.getElem?_append_left (by simp [h.length]; exact hi), List.getElem?_map, h1]
      rfl
  · rw [List.getElem?_append_right (by simpa using hi)] at e
    have := List.mem_of_getElem? e
    have := List.eq_of_mem_replicate this
    cases this
/-! ### growing: F, where the facts are told; H, the heap -/
structure Gr (F H F' H' : Hp) : Prop where
  ff : Ex F F'
  hh : Ex H H'
  fh : Ex F' H'
  nw : ∀ a, H a ≠ none → F a = none → F' a = none
theorem Gr.refl {F H : Hp} (fh : Ex F H) : Gr F H F H := ⟨Ex.refl _, Ex.refl _, fh, fun _ _ h => h⟩
theorem Gr.trans {F H F1 H1 F2 H2 : Hp} (a : Gr F H F1 H1) (b : Gr F1 H1 F2 H2) : Gr F H F2 H2 := ⟨a.ff.trans b.ff, a.hh.trans b.hh, b.fh, fun x hx hf => b.nw x (fun z => by
  have := fresh_back a.hh z
  exact hx this) (a.nw x hx hf)⟩
theorem ex_upd {F H : Hp} {p : Addr} {o : HO} (fh : Ex F H) (hp : H p = none) : Ex (upd F p o) (upd H p o) := fun a u e => by
  by_cases z : a = p
  · subst z
    rw [upd_same] at e ⊢
    exact e
  · rw [upd_ne z] at e ⊢
    exact fh a u e
theorem Gr.new {F H : Hp} {p : Addr} {o : HO} (fh : Ex F H) (hp : H p = none) : Gr F H (upd F p o) (upd H p o) := ⟨Ex.new (fresh_back fh hp), Ex.new hp, ex_upd fh hp, fun a ha hf => by
  have : a ≠ p := fun z => by
    subst z
    exact ha hp
  rw [upd_ne this]
  exact hf⟩
/-- the heap alone grows -/
theorem Gr.heap {F H H' : Hp} (fh : Ex F H) (e : Ex H H') : Gr F H F H' := ⟨Ex.refl _, e, fh.trans e, fun _ _ h => h⟩
/-! ### errors and outcomes -/
inductive EC | WrongCount | TooFar | NoPoint | Repeated | OnLine | NoSize | WrongRow | WrongLine | OnPlane | Within | NotTouched | NotBowl
  deriving DecidableEq
def EC.fld : EC → Str
  | .WrongCount => "count"
  | .TooFar => "value"
  | .NoPoint => "number"
  | .Repeated => "number"
  | .OnLine => "numbers"
  | .NoSize => "size"
  | .WrongRow => "form"
  | .WrongLine => "line"
  | .OnPlane => "numbers"
  | .Within => "triangle"
  | .NotTouched => "triangle"
  | .NotBowl => "triangle"
structure Er where
  c : EC
  val : PyData
inductive Out
  | ok (P : PV)
  | er (e : Er)
/-- what is wanted of a call that ends in o; M: where the classes stand -/
def Then (K : PySem.W.Frag) (M : EC → Addr) (F H : Hp) (Q : VK) (E : XK) : Out → Prop
  | .ok P => ∀ v F' H', Gr F H F' H' → P.p F' v → Q v H'
  | .er e => ∀ d u F' H', Gr F H F' H' → H d = none → H' d = some (.xd [(e.c.fld, u)]) → Dp K F' u e.val → E (.ref (M e.c)) (some d) H'
theorem Then.step {K : PySem.W.Frag} {M : EC → Addr} {F H F1 H1 : Hp} {Q : VK} {E : XK} {o : Out} (e : Gr F H F1 H1) (h : Then K M F H Q E o) : Then K M F1 H1 Q E o := by
  cases o with
  | ok P => exact fun v F' H' e2 p => h v F' H' (e.trans e2) p
  | er x => exact fun d u F' H' e2 n a b => h d u F' H' (e.trans e2) (fresh_back e.hh n) a b
/-- a def's promise: the arguments' kinds, the domain, the outcome -/
def Prm (K : PySem.W.Frag) (M : EC → Addr) {α : Type} (args : α → List PV) (dom : α → Prop) (out : α → Out) : Sp :=
  fun vs H Q E => ∃ a F, Ex F H ∧ AllP F vs (args a) ∧ dom a ∧ Then K M F H Q E (out a)
section
variable {K : PySem.W.Frag} {M : EC → Addr} {W : WX} {ps : Kn}
def JE (K : PySem.W.Frag) (M : EC → Addr) (W : WX) (te : TE) (ps : Kn) (o : Out) : Prop := ∀ σ F H Q, Ex F H → Sl F σ ps → Then K M F H Q (WE W σ) o → te σ H Q
abbrev JV (K : PySem.W.Frag) (M : EC → Addr) (W : WX) (te : TE) (ps : Kn) (P : PV) : Prop := JE K M W te ps (.ok P)
abbrev JD (K : PySem.W.Frag) (M : EC → Addr) (W : WX) (te : TE) (ps : Kn) (d : PyData) : Prop := JE K M W te ps (.ok (dv K d))
def JT (K : PySem.W.Frag) (M : EC → Addr) (W : WX) (tt : TT) (ps : Kn) (b : Bool) : Prop := ∀ σ F H (Q : Bool → Hp → Prop), Ex F H → Sl F σ ps → (∀ F' H', Gr F H F' H' → Q b H') → tt σ H Q
def JA (K : PySem.W.Frag) (M : EC → Addr) (W : WX) (ta : TA) (ps : Kn) (Ps : List PV) : Prop := ∀ σ F H (Q : List V → Hp → Prop), Ex F H → Sl F σ ps → (∀ vs F' H', Gr F H F' H' → AllP F' vs Ps → Q vs H') → ta σ H Q
variable {ta tb tc te : TE} {t u : TT}
theorem JE.go {P : PV} (h : JV K M W te ps P) {σ : L2.St} {F H : Hp} {Q : VK} (fh : Ex F H) (S : Sl F σ ps) (k : ∀ v F' H', Gr F H F' H' → P.p F' v → Q v H') : te σ H Q := h σ F H Q fh S k
theorem je_var {i : Nat} {P : PV} (h : ps[i]? = some (some P)) : JV K M W (tVar i) ps P := fun σ F H Q fh S k => by
  obtain ⟨v, h1, h2⟩ := S.2 i P h
  exact ⟨v, h1, k v F H (Gr.refl fh) h2⟩
theorem je_int {i : Int} : JD K M W (tC (.int i)) ps (.int i) := fun σ F H Q fh S k => k _ F H (Gr.refl fh) (.int i)
theorem je_str {x : Str} : JD K M W (tC (.str x)) ps (.str x) := fun σ F H Q fh S k => k _ F H (Gr.refl fh) (.str x)
theorem je_bl {b : Bool} : JD K M W (tC (.bl b)) ps (.bool b) := fun σ F H Q fh S k => k _ F H (Gr.refl fh) (.bl b)
theorem je_non : JD K M W (tC .non) ps .none := fun σ F H Q fh S k => k _ F H (Gr.refl fh) .non
theorem je_x {v : V} : JV K M W (tC v) ps (xv v) := fun σ F H Q fh S k => k _ F H (Gr.refl fh) rfl
theorem je_weak {P R : PV} (h : JV K M W te ps P) (i : ∀ H v, P.p H v → R.p H v) : JV K M W te ps R := fun σ F H Q fh S k => h.go fh S fun v F' H' e p => k v F' H' e (i F' v p)
/-- two operands that are known, an operation on values -/
theorem je_op {r : R2} {P R S' : PV} (ha : JV K M W ta ps P) (hb : JV K M W tb ps R) (hr : ∀ x y F H, Ex F H → P.p F x → R.p F y → ∀ Q : VK, (∀ v F' H', Gr F H F' H' → S'.p F' v → Q v H') → r x y H Q) : JV K M W (tOp r ta tb) ps S' := fun σ F H Q fh S k =>
  ha.go fh S fun x F1 H1 e1 p => hb.go e1.fh (S.mono e1.ff) fun y F2 H2 e2 q => hr x y F2 H2 e2.fh (P.mn e2.ff p) q Q fun v F3 H3 e3 s => k v F3 H3 ((e1.trans e2).trans e3) s
theorem je_un {r : V → Hp → VK → Prop} {P R : PV} (ha : JV K M W ta ps P) (hr : ∀ x F H, Ex F H → P.p F x → ∀ Q : VK, (∀ v F' H', Gr F H F' H' → R.p F' v → Q v H') → r x H Q) : JV K M W (tUn r ta) ps R := fun σ F H Q fh S k =>
  ha.go fh S fun x F1 H1 e1 p => hr x F1 H1 e1.fh p Q fun v F2 H2 e2 s => k v F2 H2 (e1.trans e2) s
/-- two ints -/
theorem je_ii0 {g : Int → Int → V} {i j : Int} {d : PyData} (ha : JD K M W ta ps (.int i)) (hb : JD K M W tb ps (.int j)) (hd : ∀ H, Dp K H (g i j) d) : JD K M W (tOp (rI0 g) ta tb) ps d :=
  je_op ha hb fun x y F H fh p q Q k => ⟨i, j, dp_int p, dp_int q, k _ F H (Gr.refl fh) (hd F)⟩
theorem je_iiC {C : Int → Int → Prop} {g : Int → Int → V} {i j : Int} {d : PyData} (ha : JD K M W ta ps (.int i)) (hb : JD K M W tb ps (.int j)) (hc : C i j) (hd : ∀ H, Dp K H (g i j) d) : JD K M W (tOp (rI C g) ta tb) ps d :=
  je_op ha hb fun x y F H fh p q Q k => ⟨i, j, dp_int p, dp_int q, hc, k _ F H (Gr.refl fh) (hd F)⟩
theorem je_add {i j : Int} (ha : JD K M W ta ps (.int i)) (hb : JD K M W tb ps (.int j)) : JD K M W (tOp (rI0 fun i j => .int (i + j)) ta tb) ps (.int (i + j)) := je_ii0 ha hb fun _ => .int _
theorem je_sub {i j : Int} (ha : JD K M W ta ps (.int i)) (hb : JD K M W tb ps (.int j)) : JD K M W (tOp (rI0 fun i j => .int (i - j)) ta tb) ps (.int (i - j)) := je_ii0 ha hb fun _ => .int _
theorem je_mul {i j : Int} (ha : JD K M W ta ps (.int i)) (hb : JD K M W tb ps (.int j)) (hc : CMul i j) : JD K M W (tOp (rI CMul fun i j => .int (i * j)) ta tb) ps (.int (i * j)) := je_iiC ha hb hc fun _ => .int _
theorem je_mod {i j : Int} (ha : JD K M W ta ps (.int i)) (hb : JD K M W tb ps (.int j)) (hc : 0 < j) : JD K M W (tOp (rI (fun _ j => 0 < j) fun i j => .int (i % j)) ta tb) ps (.int (i % j)) := je_iiC (C := fun _ j => 0 < j) ha hb hc fun _ => .int _
theorem je_div {i j : Int} (ha : JD K M W ta ps (.int i)) (hb : JD K M W tb ps (.int j)) (hc : CDiv i j) : JD K M W (tOp (rI CDiv fun i j => .int (i / j)) ta tb) ps (.int (i / j)) := je_iiC ha hb hc fun _ => .int _
theorem je_pow {i j : Int} (ha : JD K M W ta ps (.int i)) (hb : JD K M W tb ps (.int j)) (hc : CPow i j) : JD K M W (tOp (rI CPow fun i j => .int (i ^ j.toNat)) ta tb) ps (.int (i ^ j.toNat)) := je_iiC ha hb hc fun _ => .int _
theorem je_lt {i j : Int} (ha : JD K M W ta ps (.int i)) (hb : JD K M W tb ps (.int j)) : JD K M W (tOp (rI0 fun i j => .bl (decide (i < j))) ta tb) ps (.bool (decide (i < j))) := je_ii0 ha hb fun _ => .bl _
theorem je_le {i j : Int} (ha : JD K M W ta ps (.int i)) (hb : JD K M W tb ps (.int j)) : JD K M W (tOp (rI0 fun i j => .bl (decide (i ≤ j))) ta tb) ps (.bool (decide (i ≤ j))) := je_ii0 ha hb fun _ => .bl _
theorem je_gt {i j : Int} (ha : JD K M W ta ps (.int i)) (hb : JD K M W tb ps (.int j)) : JD K M W (tOp (rI0 fun i j => .bl (decide (j < i))) ta tb) ps (.bool (decide (j < i))) := je_ii0 ha hb fun _ => .bl _
theorem je_ge {i j : Int} (ha : JD K M W ta ps (.int i)) (hb : JD K M W tb ps (.int j)) : JD K M W (tOp (rI0 fun i j => .bl (decide (j ≤ i))) ta tb) ps (.bool (decide (j ≤ i))) := je_ii0 ha hb fun _ => .bl _
theorem je_eqI {i j : Int} (ha : JD K M W ta ps (.int i)) (hb : JD K M W tb ps (.int j)) : JD K M W (tOp rEq ta tb) ps (.bool (decide (i = j))) := je_op ha hb fun x y F H fh p q Q k => by
  rw [dp_int p, dp_int q]
  refine ⟨rfl, ?_⟩
  have e : decide (V.int i = V.int j) = decide (i = j) := by
    by_cases h : i = j
    · subst h; simp
    · simp [h]
  rw [e]
  exact k _ F H (Gr.refl fh) (.bl _)
theorem je_neI {i j : Int} (ha : JD K M W ta ps (.int i)) (hb : JD K M W tb ps (.int j)) : JD K M W (tOp rNe ta tb) ps (.bool (!decide (i = j))) := je_op ha hb fun x y F H fh p q Q k => by
  rw [dp_int p, dp_int q]
  refine ⟨rfl, ?_⟩
  have e : decide (V.int i = V.int j) = decide (i = j) := by
    by_cases h : i = j
    · subst h; simp
    · simp [h]
  rw [e]
  exact k _ F H (Gr.refl fh) (.bl _)
theorem je_eqS {x y : Str} (ha : JD K M W ta ps (.str x)) (hb : JD K M W tb ps (.str y)) : JD K M W (tOp rEq ta tb) ps (.bool (decide (x = y))) := je_op ha hb fun a b F H fh p q Q k => by
  rw [dp_str p, dp_str q]
  refine ⟨rfl, ?_⟩
  have e : decide (V.str x = V.str y) = decide (x = y) := by
    by_cases h : x = y
    · subst h; simp
    · simp [h]
  rw [e]
  exact k _ F H (Gr.refl fh) (.bl _)
/-- data at any depth -/
theorem je_eqD {d e : PyData} (ha : JD K M W ta ps d) (hb : JD K M W tb ps e) (sd : SeqAt.shaped d = true) (se : SeqAt.shaped e = true) : JD K M W (tOp (rEqD K) ta tb) ps (.bool (PyData.eqv d e)) :=
  je_op ha hb fun x y F H fh p q Q k => ⟨d, e, dp_mono fh p, dp_mono fh q, sd, se, k _ F H (Gr.refl fh) (.bl _)⟩
theorem je_neD {d e : PyData} (ha : JD K M W ta ps d) (hb : JD K M W tb ps e) (sd : SeqAt.shaped d = true) (se : SeqAt.shaped e = true) : JD K M W (tOp (rNeD K) ta tb) ps (.bool (!PyData.eqv d e)) :=
  je_op ha hb fun x y F H fh p q Q k => ⟨d, e, dp_mono fh p, dp_mono fh q, sd, se, k _ F H (Gr.refl fh) (.bl _)⟩
theorem je_neg {i : Int} (ha : JD K M W ta ps (.int i)) : JD K M W (tUn (rU fun i => .int (-i)) ta) ps (.int (-i)) := je_un ha fun x F H fh p Q k => ⟨i, dp_int p, k _ F H (Gr.refl fh) (.int _)⟩
/-- items -/
theorem atI_all {H : Hp} {vs : List V} {ds : List PyData} {i : Int} {d : PyData} (h : DpAll K H vs ds) (ha : atI ds i = some d) : ∃ v, atI vs i = some v ∧ Dp K H v d := by
  unfold atI at ha ⊢
  rw [dpLength h]
  cases q : ixN ds.length i with
  | none => rw [q] at ha; cases ha
  | some j =>
    rw [q] at ha
    exact dpGet h ha
theorem je_ixT {ds : List PyData} {i : Int} {d : PyData} (ha : JD K M W ta ps (.tuple ds)) (hb : JD K M W tb ps (.int i)) (hi : atI ds i = some d) : JD K M W (tOp (rIxT K) ta tb) ps d :=
  je_op ha hb fun x y F H fh p q Q k => by
    obtain ⟨a, xs, rfl, hs, hd⟩ := dp_tup p
    obtain ⟨v, hv, dd⟩ := atI_all hd hi
    exact ⟨a, xs, i, v, rfl, dp_int q, ex_t fh hs, hv, k v F H (Gr.refl fh) dd⟩
theorem je_ixL {ds : List PyData} {i : Int} {d : PyData} (ha : JD K M W ta ps (.list ds)) (hb : JD K M W tb ps (.int i)) (hi : atI ds i = some d) : JD K M W (tOp (rIxL K) ta tb) ps d :=
  je_op ha hb fun x y F H fh p q Q k => by
    obtain ⟨a, xs, rfl, hs, hd⟩ := dp_lst p
    obtain ⟨v, hv, dd⟩ := atI_all hd hi
    exact ⟨a, xs, i, v, rfl, dp_int q, ex_l fh hs, hv, k v F H (Gr.refl fh) dd⟩
theorem je_ixQT {ds : List PyData} {i : Int} {d : PyData} (ha : JD K M W ta ps (.tuple ds)) (hb : JD K M W tb ps (.int i)) (hi : atI ds i = some d) : JD K M W (tOp (rIx K) ta tb) ps d :=
  je_op ha hb fun x y F H fh p q Q k => by
    obtain ⟨a, xs, rfl, hs, hd⟩ := dp_tup p
    obtain ⟨v, hv, dd⟩ := atI_all hd hi
    exact .inr (.inl ⟨a, xs, i, v, rfl, dp_int q, ex_t fh hs, hv, k v F H (Gr.refl fh) dd⟩)
theorem je_ixQL {ds : List PyData} {i : Int} {d : PyData} (ha : JD K M W ta ps (.list ds)) (hb : JD K M W tb ps (.int i)) (hi : atI ds i = some d) : JD K M W (tOp (rIx K) ta tb) ps d :=
  je_op ha hb fun x y F H fh p q Q k => by
    obtain ⟨a, xs, rfl, hs, hd⟩ := dp_lst p
    obtain ⟨v, hv, dd⟩ := atI_all hd hi
    exact .inl ⟨a, xs, i, v, rfl, dp_int q, ex_l fh hs, hv, k v F H (Gr.refl fh) dd⟩
/-- arguments -/
theorem ja_nil : JA K M W tNil ps [] := fun σ F H Q fh S k => k [] F H (Gr.refl fh) .nil
theorem ja_cons {P : PV} {Ps : List PV} {tr : TA} (h : JV K M W te ps P) (hr : JA K M W tr ps Ps) : JA K M W (tCons te tr) ps (P :: Ps) := fun σ F H Q fh S k =>
  h.go fh S fun v F1 H1 e1 p => hr σ F1 H1 _ e1.fh (S.mono e1.ff) fun vs F2 H2 e2 a => k (v :: vs) F2 H2 (e1.trans e2) (.cons (P.mn e2.ff p) a)
theorem ja_starT {ds : List PyData} {Ps : List PV} {tr : TA} (h : JD K M W te ps (.tuple ds)) (hr : JA K M W tr ps Ps) : JA K M W (StX.tStar K te tr) ps (ds.map (dv K) ++ Ps) := fun σ F H Q fh S k =>
  h.go fh S fun v F1 H1 e1 p => by
    obtain ⟨a, xs, rfl, hs, hd⟩ := dp_tup p
    exact ⟨a, xs, rfl, .inl (ex_t e1.fh hs), hr σ F1 H1 _ e1.fh (S.mono e1.ff) fun vs F2 H2 e2 b => k (xs ++ vs) F2 H2 (e1.trans e2) ((AllP.of_dv (dpAll_mono e2.ff hd)).app b)⟩
theorem ja_starL {ds : List PyData} {Ps : List PV} {tr : TA} (h : JD K M W te ps (.list ds)) (hr : JA K M W tr ps Ps) : JA K M W (StX.tStar K te tr) ps (ds.map (dv K) ++ Ps) := fun σ F H Q fh S k =>
  h.go fh S fun v F1 H1 e1 p => by
    obtain ⟨a, xs, rfl, hs, hd⟩ := dp_lst p
    exact ⟨a, xs, rfl, .inr (ex_l e1.fh hs), hr σ F1 H1 _ e1.fh (S.mono e1.ff) fun vs F2 H2 e2 b => k (xs ++ vs) F2 H2 (e1.trans e2) ((AllP.of_dv (dpAll_mono e2.ff hd)).app b)⟩
theorem ja_is {Ps Qs : List PV} {tr : TA} (h : JA K M W tr ps Ps) (e : Ps = Qs) : JA K M W tr ps Qs := e ▸ h
theorem je_tup {ds : List PyData} {tr : TA} (h : JA K M W tr ps (ds.map (dv K))) (hl : ds.length ≤ 100000 := by first | decide | omega | (simp; done)) : JD K M W (tTup tr) ps (.tuple ds) := fun σ F H Q fh S k =>
  h σ F H _ fh S fun vs F1 H1 e1 a => ⟨sz_of (by rw [dpLength a.dv]; exact hl), fun p hp => k _ _ _ (e1.trans (Gr.new e1.fh hp)) (.tup (st_of upd_same) (dpAll_mono (Gr.new (o := .tup vs) e1.fh hp).ff a.dv))⟩
theorem je_lst {ds : List PyData} {tr : TA} (h : JA K M W tr ps (ds.map (dv K))) (hl : ds.length ≤ 100000 := by first | decide | omega | (simp; done)) : JD K M W (tLst tr) ps (.list ds) := fun σ F H Q fh S k =>
  h σ F H _ fh S fun vs F1 H1 e1 a => ⟨sz_of (by rw [dpLength a.dv]; exact hl), fun p hp => k _ _ _ (e1.trans (Gr.new e1.fh hp)) (.lst (sq_of upd_same) (dpAll_mono (Gr.new (o := .lst vs) e1.fh hp).ff a.dv))⟩
/-- calls -/
theorem je_call {α : Type} {args : α → List PV} {dom : α → Prop} {out : α → Out} {tr : TA} (a : α) (h : JA K M W tr ps (args a)) (hd : dom a) : JE K M W (tCallS (Prm K M args dom out) (WE W) tr) ps (out a) := fun σ F H Q fh S k =>
  h σ F H _ fh S fun vs F1 H1 e1 b => ⟨a, F1, e1.fh, b, hd, Then.step e1 k⟩
theorem je_cb {r : List V → Hp → VK → Prop} {Ps : List PV} {P : PV} {tr : TA} (h : JA K M W tr ps Ps) (hr : ∀ vs F H, Ex F H → AllP F vs Ps → ∀ Q : VK, (∀ v F' H', Gr F H F' H' → P.p F' v → Q v H') → r vs H Q) : JV K M W (tCB r tr) ps P := fun σ F H Q fh S k =>
  h σ F H _ fh S fun vs F1 H1 e1 b => hr vs F1 H1 e1.fh b Q fun v F2 H2 e2 p => k v F2 H2 (e1.trans e2) p
theorem allP1 {H : Hp} {vs : List V} {P : PV} (h : AllP H vs [P]) : ∃ v, vs = [v] ∧ P.p H v := by
  cases h with
  | cons h t => cases t; exact ⟨_, rfl, h⟩
theorem allP2 {H : Hp} {vs : List V} {P R : PV} (h : AllP H vs [P, R]) : ∃ v u, vs = [v, u] ∧ P.p H v ∧ R.p H u := by
  cases h with
  | cons h t =>
    obtain ⟨u, rfl, h2⟩ := allP1 t
    exact ⟨_, _, rfl, h, h2⟩
def rAbs : List V → Hp → VK → Prop := fun xs H Q => ∃ i, xs = [.int i] ∧ Q (.int (if i < 0 then -i else i)) H
theorem je_abs {i : Int} (h : JD K M W te ps (.int i)) : JD K M W (tCB rAbs (tCons te tNil)) ps (.int (if i < 0 then -i else i)) := je_cb (ja_cons h ja_nil) fun vs F H fh b Q k => by
  obtain ⟨v, rfl, p⟩ := allP1 b
  rw [dp_int p]
  exact ⟨i, rfl, k _ F H (Gr.refl fh) (.int _)⟩
def rInt1 : List V → Hp → VK → Prop := fun xs H Q => (∃ i, xs = [.int i] ∧ Q (.int i) H) ∨ ∃ k, xs = [.bl k] ∧ Q (.int (if k then 1 else 0)) H
theorem je_intI {i : Int} (h : JD K M W te ps (.int i)) : JD K M W (tCB rInt1 (tCons te tNil)) ps (.int i) := je_cb (ja_cons h ja_nil) fun vs F H fh b Q k => by
  obtain ⟨v, rfl, p⟩ := allP1 b
  rw [dp_int p]
  exact .inl ⟨i, rfl, k _ F H (Gr.refl fh) (.int _)⟩
theorem je_intB {c : Bool} (h : JD K M W te ps (.bool c)) : JD K M W (tCB rInt1 (tCons te tNil)) ps (.int (if c then 1 else 0)) := je_cb (ja_cons h ja_nil) fun vs F H fh b Q k => by
  obtain ⟨v, rfl, p⟩ := allP1 b
  rw [dp_bl p]
  exact .inr ⟨c, rfl, k _ F H (Gr.refl fh) (.int _)⟩
theorem je_lenT {ds : List PyData} (h : JD K M W te ps (.tuple ds)) : JD K M W (tCB (rLenS K) (tCons te tNil)) ps (.int ds.length) := je_cb (ja_cons h ja_nil) fun vs F H fh b Q k => by
  obtain ⟨v, rfl, p⟩ := allP1 b
  obtain ⟨a, xs, rfl, hs, hd⟩ := dp_tup p
  refine ⟨a, xs, rfl, .inr (ex_t fh hs), k _ F H (Gr.refl fh) ?_⟩
  rw [dpLength hd]
  exact .int _
theorem je_lenL {ds : List PyData} (h : JD K M W te ps (.list ds)) : JD K M W (tCB (rLenS K) (tCons te tNil)) ps (.int ds.length) := je_cb (ja_cons h ja_nil) fun vs F H fh b Q k => by
  obtain ⟨v, rfl, p⟩ := allP1 b
  obtain ⟨a, xs, rfl, hs, hd⟩ := dp_lst p
  refine ⟨a, xs, rfl, .inl (ex_l fh hs), k _ F H (Gr.refl fh) ?_⟩
  rw [dpLength hd]
  exact .int _
theorem je_listL {ds : List PyData} (h : JD K M W te ps (.list ds)) : JD K M W (tCB (rListS K) (tCons te tNil)) ps (.list ds) := je_cb (ja_cons h ja_nil) fun vs F H fh b Q k => by
  obtain ⟨v, rfl, p⟩ := allP1 b
  obtain ⟨a, xs, rfl, hs, hd⟩ := dp_lst p
  exact ⟨a, xs, rfl, .inl (ex_l fh hs), fun l hl => k _ _ _ (Gr.new fh hl) (.lst (sq_of upd_same) (dpAll_mono (Gr.new (o := .lst xs) fh hl).ff hd))⟩
theorem je_listT {ds : List PyData} (h : JD K M W te ps (.tuple ds)) : JD K M W (tCB (rListS K) (tCons te tNil)) ps (.list ds) := je_cb (ja_cons h ja_nil) fun vs F H fh b Q k => by
  obtain ⟨v, rfl, p⟩ := allP1 b
  obtain ⟨a, xs, rfl, hs, hd⟩ := dp_tup p
  exact ⟨a, xs, rfl, .inr (ex_t fh hs), fun l hl => k _ _ _ (Gr.new fh hl) (.lst (sq_of upd_same) (dpAll_mono (Gr.new (o := .lst xs) fh hl).ff hd))⟩
def rTupS (K : PySem.W.Frag) : List V → Hp → VK → Prop := fun xs H Q => ∃ p ys, xs = [.ref p] ∧ ((SqL K H p ys ∧ ∀ l, H l = none → Q (.ref l) (upd H l (.tup ys))) ∨ (SqT K H p ys ∧ Q (.ref p) H))
theorem je_tupL {ds : List PyData} (h : JD K M W te ps (.list ds)) : JD K M W (tCB (rTupS K) (tCons te tNil)) ps (.tuple ds) := je_cb (ja_cons h ja_nil) fun vs F H fh b Q k => by
  obtain ⟨v, rfl, p⟩ := allP1 b
  obtain ⟨a, xs, rfl, hs, hd⟩ := dp_lst p
  exact ⟨a, xs, rfl, .inl ⟨ex_l fh hs, fun l hl => k _ _ _ (Gr.new fh hl) (.tup (st_of upd_same) (dpAll_mono (Gr.new (o := .tup xs) fh hl).ff hd))⟩⟩
theorem je_tupT {ds : List PyData} (h : JD K M W te ps (.tuple ds)) : JD K M W (tCB (rTupS K) (tCons te tNil)) ps (.tuple ds) := je_cb (ja_cons h ja_nil) fun vs F H fh b Q k => by
  obtain ⟨v, rfl, p⟩ := allP1 b
  obtain ⟨a, xs, rfl, hs, hd⟩ := dp_tup p
  exact ⟨a, xs, rfl, .inr ⟨ex_t fh hs, k _ F H (Gr.refl fh) p⟩⟩
/-- tests -/
theorem jt_test {b : Bool} (h : JD K M W te ps (.bool b)) : JT K M W (tTest te) ps b := fun σ F H Q fh S k => h.go fh S fun v F1 H1 e p => ⟨b, dp_bl p, k F1 H1 e⟩
theorem jt_B {b : Bool} (h : JD K M W te ps (.bool b)) : JT K M W (tB te) ps b := fun σ F H Q fh S k => h.go fh S fun v F1 H1 e p => ⟨b, dp_bl p, k F1 H1 e⟩
theorem jt_and {a b : Bool} (h1 : JT K M W t ps a) (h2 : a = true → JT K M W u ps b) : JT K M W (tAnd t u) ps (a && b) := fun σ F H Q fh S k => h1 σ F H _ fh S fun F1 H1 e1 => by
  cases a with
  | true => exact h2 rfl σ F1 H1 Q e1.fh (S.mono e1.ff) fun F2 H2 e2 => k F2 H2 (e1.trans e2)
  | false => exact k F1 H1 e1
theorem jt_or {a b : Bool} (h1 : JT K M W t ps a) (h2 : a = false → JT K M W u ps b) : JT K M W (tOr t u) ps (a || b) := fun σ F H Q fh S k => h1 σ F H _ fh S fun F1 H1 e1 => by
  cases a with
  | false => exact h2 rfl σ F1 H1 Q e1.fh (S.mono e1.ff) fun F2 H2 e2 => k F2 H2 (e1.trans e2)
  | true => exact k F1 H1 e1
theorem jt_not {a : Bool} (h1 : JT K M W t ps a) : JT K M W (tNot t) ps (!a) := fun σ F H Q fh S k => h1 σ F H _ fh S fun F1 H1 e1 => k F1 H1 e1
theorem jt_yes : JT K M W tYes ps true := fun σ F H Q fh S k => k F H (Gr.refl fh)
theorem jt_is {a b : Bool} (h : JT K M W t ps a) (e : a = b) : JT K M W t ps b := by rw [← e]; exact h
theorem je_is {d e : PyData} (h : JD K M W te ps d) (q : d = e) : JD K M W te ps e := by rw [← q]; exact h
theorem je_andV {a b : Bool} (h1 : JD K M W ta ps (.bool a)) (h2 : a = true → JD K M W tb ps (.bool b)) : JD K M W (tAndV ta tb) ps (.bool (a && b)) := fun σ F H Q fh S k => h1.go fh S fun v F1 H1 e1 p => by
  refine ⟨a, dp_bl p, ?_⟩
  cases a with
  | true => exact (h2 rfl).go e1.fh (S.mono e1.ff) fun v F2 H2 e2 q => k v F2 H2 (e1.trans e2) q
  | false => exact k _ F1 H1 e1 (.bl false)
theorem je_orV {a b : Bool} (h1 : JD K M W ta ps (.bool a)) (h2 : a = false → JD K M W tb ps (.bool b)) : JD K M W (tOrV ta tb) ps (.bool (a || b)) := fun σ F H Q fh S k => h1.go fh S fun v F1 H1 e1 p => by
  refine ⟨a, dp_bl p, ?_⟩
  cases a with
  | false => exact (h2 rfl).go e1.fh (S.mono e1.ff) fun v F2 H2 e2 q => k v F2 H2 (e1.trans e2) q
  | true => exact k _ F1 H1 e1 (.bl true)
theorem je_notV {a : Bool} (h1 : JD K M W ta ps (.bool a)) : JD K M W (tNotV ta) ps (.bool (!a)) := fun σ F H Q fh S k => h1.go fh S fun v F1 H1 e1 p => ⟨a, dp_bl p, k _ F1 H1 e1 (.bl _)⟩
theorem je_if {b : Bool} {P : PV} (h : JT K M W t ps b) (h1 : b = true → JV K M W ta ps P) (h2 : b = false → JV K M W tb ps P) : JV K M W (tIf t ta tb) ps P := fun σ F H Q fh S k => h σ F H _ fh S fun F1 H1 e1 => by
  cases b with
  | true => exact (h1 rfl).go e1.fh (S.mono e1.ff) fun v F2 H2 e2 q => k v F2 H2 (e1.trans e2) q
  | false => exact (h2 rfl).go e1.fh (S.mono e1.ff) fun v F2 H2 e2 q => k v F2 H2 (e1.trans e2) q
/-- a < b <= c -/
theorem je_chain {r r' : R2} {P R T : PV} {k1 k2 : Bool} (ha : JV K M W ta ps P) (hb : JV K M W tb ps R) (hr : ∀ x y F H, Ex F H → P.p F x → R.p F y → ∀ Q : VK, Q (.bl k1) H → r x y H Q)
    (hc : k1 = true → JV K M W tc ps T) (hr' : ∀ x y F H, Ex F H → R.p F x → T.p F y → ∀ Q : VK, Q (.bl k2) H → r' x y H Q) : JD K M W (tChain r r' ta tb tc) ps (.bool (k1 && k2)) := fun σ F H Q fh S k =>
  ha.go fh S fun x F1 H1 e1 p => hb.go e1.fh (S.mono e1.ff) fun y F2 H2 e2 q => hr x y F2 H2 e2.fh (P.mn e2.ff p) q _ ⟨k1, rfl, by
    cases k1 with
    | false => exact k _ F2 H2 (e1.trans e2) (.bl _)
    | true => exact (hc rfl).go e2.fh ((S.mono e1.ff).mono e2.ff) fun z F3 H3 e3 s => hr' y z F3 H3 e3.fh (R.mn e3.ff q) s _ (k _ F3 H3 ((e1.trans e2).trans e3) (.bl _))⟩
theorem je_chainI {f f' : Int → Int → Bool} {i j l : Int} (ha : JD K M W ta ps (.int i)) (hb : JD K M W tb ps (.int j)) (hc : JD K M W tc ps (.int l)) :
    JD K M W (tChain (rI0 fun i j => .bl (f i j)) (rI0 fun i j => .bl (f' i j)) ta tb tc) ps (.bool (f i j && f' j l)) :=
  je_chain ha hb (fun x y F H fh p q Q k => ⟨i, j, dp_int p, dp_int q, k⟩) (fun _ => hc) (fun x y F H fh p q Q k => ⟨j, l, dp_int p, dp_int q, k⟩)
end
end EB

/-! EB4: statements (JS), loops over data, comprehensions, raise, methods, making. -/
namespace EB
open PySem PySem.Spec PyProof.Rows L2 Evl
inductive Res
  | nx (ps : Kn)
  | rt (P : PV)
  | bk (ps : Kn)
  | ct (ps : Kn)
  | er (e : Er)
def Wsh (K : PySem.W.Frag) (M : EC → Addr) (W : WX) (n : Nat) (D : Ends) (F H : Hp) : Res → Prop
  | .nx ps => ∀ σ' F' H', Gr F H F' H' → Sl F' σ' ps → D.nx σ' H'
  | .rt P => ∀ v F' H', Gr F H F' H' → P.p F' v → D.rt v H'
  | .bk ps => ∀ σ' F' H', Gr F H F' H' → Sl F' σ' ps → D.bk σ' H'
  | .ct ps => ∀ σ' F' H', Gr F H F' H' → Sl F' σ' ps → D.ct σ' H'
  | .er e => ∀ d u σ' F' H', Gr F H F' H' → H d = none → H' d = some (.xd [(e.c.fld, u)]) → Dp K F' u e.val → σ'.length = n → W (.ref (M e.c)) (some d) σ' H'
theorem Wsh.step {K : PySem.W.Frag} {M : EC → Addr} {W : WX} {n : Nat} {D : Ends} {F H F1 H1 : Hp} {r : Res} (e : Gr F H F1 H1) (h : Wsh K M W n D F H r) : Wsh K M W n D F1 H1 r := by
  cases r with
  | nx ps => exact fun σ' F' H' e2 s => h σ' F' H' (e.trans e2) s
  | rt P => exact fun v F' H' e2 s => h v F' H' (e.trans e2) s
  | bk ps => exact fun σ' F' H' e2 s => h σ' F' H' (e.trans e2) s
  | ct ps => exact fun σ' F' H' e2 s => h σ' F' H' (e.trans e2) s
  | er x => exact fun d u σ' F' H' e2 n a b l => h d u σ' F' H' (e.trans e2) (fresh_back e.hh n) a b l
/-- the end of a call's outcome, as a statement's -/
def Out.res (ps : Kn) : Out → Res
  | .ok _ => .nx ps
  | .er e => .er e
section
variable {K : PySem.W.Frag} {M : EC → Addr} {W : WX} {ps qs : Kn} {te ta tb : TE} {t : TT} {ts tu tw : TS} {r : Res}
def JS (K : PySem.W.Frag) (M : EC → Addr) (W : WX) (ts : TS) (ps : Kn) (r : Res) : Prop := ∀ D σ F H, Ex F H → Sl F σ ps → Wsh K M W ps.length D F H r → ts D σ H
/-- less is known of the slots behind it -/
theorem js_weak (h : JS K M W ts ps (.nx qs)) {rs : Kn} (w : Weak qs rs) : JS K M W ts ps (.nx rs) := fun D σ F H fh S k => h D σ F H fh S fun σ' F' H' e s => k σ' F' H' e (s.weak w)
theorem js_pre (h : JS K M W ts qs r) (w : Weak ps qs) : JS K M W ts ps r := fun D σ F H fh S k => h D σ F H fh (S.weak w) (by rw [← w.len]; exact k)
theorem js_next : JS K M W tNext ps (.nx ps) := fun D σ F H fh S k => k σ F H (Gr.refl fh) S
theorem js_cont : JS K M W tCont ps (.ct ps) := fun D σ F H fh S k => k σ F H (Gr.refl fh) S
theorem js_seq (h1 : JS K M W ts ps (.nx qs)) (h2 : JS K M W tu qs r) (hq : qs.length = ps.length := by first | rfl | (simp; done)) : JS K M W (tSeq ts tu) ps r := fun D σ F H fh S k => h1 { D with nx := tu D } σ F H fh S fun σ' F' H' e s => h2 D σ' F' H' e.fh s (by rw [hq]; exact Wsh.step e k)
/-- nothing behind it is reached -/
theorem js_stop {r : Res} (h1 : JS K M W ts ps r) (hr : ∀ qs, r ≠ .nx qs) : JS K M W (tSeq ts tu) ps r := fun D σ F H fh S k => h1 { D with nx := tu D } σ F H fh S (by
  cases r with
  | nx qs => exact absurd rfl (hr qs)
  | rt P => exact k
  | bk ps => exact k
  | ct ps => exact k
  | er e => exact k)
theorem js_rt {P : PV} (h1 : JS K M W ts ps (.rt P)) : JS K M W (tSeq ts tu) ps (.rt P) := js_stop h1 fun _ h => nomatch h
theorem js_er {e : Er} (h1 : JS K M W ts ps (.er e)) : JS K M W (tSeq ts tu) ps (.er e) := js_stop h1 fun _ h => nomatch h
theorem js_set {i : Nat} {P : PV} (h : JV K M W te ps P) : JS K M W (tAsg te (gName i)) ps (.nx (ps.set i (some P))) := fun D σ F H fh S k => h.go fh S fun v F1 H1 e p => k _ F1 H1 e ((S.mono e.ff).set i p)
theorem js_set_er {g : TG} {e : Er} (h : JE K M W te ps (.er e)) : JS K M W (tAsg te g) ps (.er e) := fun D σ F H fh S k => h σ F H _ fh S fun d u F' H' e1 n a b => k d u σ F' H' e1 n a b S.1
theorem js_ret {P : PV} (h : JV K M W te ps P) : JS K M W (tRet te) ps (.rt P) := fun D σ F H fh S k => h.go fh S fun v F1 H1 e p => k v F1 H1 e p
theorem js_ret_er {e : Er} (h : JE K M W te ps (.er e)) : JS K M W (tRet te) ps (.er e) := fun D σ F H fh S k => h σ F H _ fh S fun d u F' H' e1 n a b => k d u σ F' H' e1 n a b S.1
theorem js_retN : JS K M W tRetN ps (.rt (dv K .none)) := fun D σ F H fh S k => k .non F H (Gr.refl fh) .non
theorem js_drop {o : Out} (h : JE K M W te ps o) : JS K M W (tDrop te) ps (o.res ps) := fun D σ F H fh S k => h σ F H _ fh S (by
  cases o with
  | ok P => exact fun v F1 H1 e p => k σ F1 H1 e (S.mono e.ff)
  | er e => exact fun d u F' H' e1 n a b => k d u σ F' H' e1 n a b S.1)
theorem js_if {b : Bool} (h : JT K M W t ps b) (h1 : b = true → JS K M W ts ps r) (h2 : b = false → JS K M W tu ps r) : JS K M W (tIfS t ts tu) ps r := fun D σ F H fh S k => h σ F H _ fh S fun F1 H1 e1 => by
  cases b with
  | true => exact h1 rfl D σ F1 H1 e1.fh (S.mono e1.ff) (Wsh.step e1 k)
  | false => exact h2 rfl D σ F1 H1 e1.fh (S.mono e1.ff) (Wsh.step e1 k)
theorem js_res {r' : Res} (h : JS K M W ts ps r) (e : r = r') : JS K M W ts ps r' := e ▸ h
/-! ### targets -/
/-- a target takes a value that is known -/
structure Upto (vs : List Nat) (σ σ' : L2.St) : Prop where
  len : σ'.length = σ.length
  out : ∀ j, j ∉ vs → σ'[j]? = σ[j]?
theorem Upto.refl (vs : List Nat) (σ : L2.St) : Upto vs σ σ := ⟨rfl, fun _ _ => rfl⟩
theorem Upto.trans {vs : List Nat} {σ τ ρ : L2.St} (a : Upto vs σ τ) (b : Upto vs τ ρ) : Upto vs σ ρ := ⟨b.len.trans a.len, fun j h => (b.out j h).trans (a.out j h)⟩
theorem Upto.set {vs : List Nat} {σ : L2.St} {j : Nat} {x : Option V} (h : j ∈ vs) : Upto vs σ (σ.set j x) := ⟨by rw [List.length_set], fun i hi => by
  rw [List.getElem?_set_ne (fun z => hi (by rw [← z]; exact h))]⟩
theorem wipe_in {σ : L2.St} : ∀ {vs : List Nat} {j : Nat}, j ∈ vs → j < σ.length → (wipe σ vs)[j]? = some none
  | v :: vs, j, h, hl => by
    show ((wipe σ vs).set v none)[j]? = some none
    by_cases e : v = j
    · subst e
      exact List.getElem?_set_self (by rw [wipe_length]; exact hl)
    · rw [List.getElem?_set_ne e]
      rcases List.mem_cons.mp h with z | z
      · exact absurd z.symm e
      · exact wipe_in z hl
theorem wipe_upto {vs : List Nat} {σ σ' : L2.St} (u : Upto vs σ σ') : wipe σ' vs = wipe σ vs := by
  apply List.ext_getElem?
  intro j
  by_cases h : j ∈ vs
  · by_cases hl : j < σ.length
    · rw [wipe_in h hl, wipe_in h (by rw [u.len]; exact hl)]
    · rw [List.getElem?_eq_none (by rw [wipe_length, u.len]; omega), List.getElem?_eq_none (by rw [wipe_length]; omega)]
  · rw [wipe_out h, wipe_out h, u.out j h]
theorem upto_wipe {vs : List Nat} {σ : L2.St} : Upto vs σ (wipe σ vs) := ⟨wipe_length σ vs, fun j h => wipe_out h⟩
def wipeK : Kn → List Nat → Kn
  | ps, [] => ps
  | ps, v :: vs => (wipeK ps vs).set v none
theorem Sl.wipe {H : Hp} {σ : L2.St} {ps : Kn} (S : Sl H σ ps) : ∀ vs : List Nat, Sl H (L2.wipe σ vs) (wipeK ps vs)
  | [] => S
  | v :: vs => (Sl.wipe S vs).forget v none
def JG (vs : List Nat) (g : TG) (ps : Kn) (P : PV) (qs : Kn) : Prop := ∀ v σ F H (Q : L2.St → Hp → Prop), Ex F H → Sl F σ ps → P.p F v → (∀ σ' F' H', Gr F H F' H' → Sl F' σ' qs → Upto vs σ σ' → Q σ' H') → g v σ H Q
def JGs (vs : List Nat) (g : TGs) (ps : Kn) (Ps : List PV) (qs : Kn) : Prop := ∀ us σ F H (Q : L2.St → Hp → Prop), Ex F H → Sl F σ ps → AllP F us Ps → (∀ σ' F' H', Gr F H F' H' → Sl F' σ' qs → Upto vs σ σ' → Q σ' H') → g us σ H Q
variable {vs : List Nat}
theorem jg_name {i : Nat} {P : PV} (h : i ∈ vs := by decide) : JG vs (gName i) ps P (ps.set i (some P)) := fun v σ F H Q fh S p k => k _ F H (Gr.refl fh) (S.set i p) (Upto.set h)
theorem jgs_nil : JGs vs gNil ps [] ps := fun us σ F H Q fh S a k => by
  cases a
  exact ⟨rfl, k σ F H (Gr.refl fh) S (Upto.refl _ _)⟩
theorem jgs_cons {g : TG} {gs : TGs} {P : PV} {Ps : List PV} {rs : Kn} (h : JG vs g ps P qs) (hs : JGs vs gs qs Ps rs) : JGs vs (gCons g gs) ps (P :: Ps) rs := fun us σ F H Q fh S a k => by
  cases a with
  | cons p a =>
    exact ⟨_, _, rfl, h _ σ F H _ fh S p fun σ1 F1 H1 e1 S1 u1 => hs _ σ1 F1 H1 Q e1.fh S1 (a.mono e1.ff) fun σ2 F2 H2 e2 S2 u2 => k σ2 F2 H2 (e1.trans e2) S2 (u1.trans u2)⟩
theorem jg_tup {gs : TGs} {n : Nat} {ds : List PyData} (h : JGs vs gs ps (ds.map (dv K)) qs) (hn : ds.length = n := by rfl) : JG vs (gTup K n gs) ps (dv K (.tuple ds)) qs := fun v σ F H Q fh S p k => by
  obtain ⟨a, xs, rfl, hs, hd⟩ := dp_tup p
  exact ⟨a, xs, rfl, ex_t fh hs, by rw [dpLength hd, hn], h xs σ F H Q fh S (AllP.of_dv hd) k⟩
theorem js_asg {g : TG} {P : PV} (h : JV K M W te ps P) (hg : JG vs g ps P qs) : JS K M W (tAsg te g) ps (.nx qs) := fun D σ F H fh S k =>
  h.go fh S fun v F1 H1 e p => hg v σ F1 H1 _ e.fh (S.mono e.ff) p fun σ2 F2 H2 e2 S2 _ => k σ2 F2 H2 (e.trans e2) S2
theorem js_par {i j : Nat} {P R : PV} {tr : TA} (h : JA K M W tr ps [P, R]) : JS K M W (tPar i j tr) ps (.nx ((ps.set i (some P)).set j (some R))) := fun D σ F H fh S k => h σ F H _ fh S fun us F1 H1 e1 a => by
  obtain ⟨v, u, rfl, p, q⟩ := allP2 a
  exact ⟨v, u, rfl, k _ F1 H1 e1 (((S.mono e1.ff).set i p).set j q)⟩
/-! ### what is walked -/
/-- J walks the data ds, told at F, in every heap above -/
structure ItOf (K : PySem.W.Frag) (J : It) (F : Hp) (ds : List PyData) : Prop where
  stop : ∀ i H', Ex F H' → ds.length ≤ i → J.stop i H'
  go : ∀ i H', Ex F H' → i < ds.length → J.go i H'
  yld : ∀ i d F' H' x H2, Ex F F' → Ex F' H' → ds[i]? = some d → J.yld i H' x H2 → ∃ F2, Gr F' H' F2 H2 ∧ Dp K F2 x d
def JI (K : PySem.W.Frag) (M : EC → Addr) (W : WX) (wi : TI) (ps : Kn) (ds : List PyData) : Prop := ∀ σ F H R, Ex F H → Sl F σ ps → (∀ J F1 H1, Gr F H F1 H1 → ItOf K J F1 ds → R J H1) → wi σ H R
theorem itl_of {a : Addr} {xs : List V} {ds : List PyData} {F : Hp} (hx : SqL K F a xs) (hd : DpAll K F xs ds) : ItOf K (Itl K a) F ds where
  stop := fun i H' e h => ⟨xs, ex_l e hx, by rw [dpLength hd]; exact h⟩
  go := fun i H' e h => by
    have hl : i < xs.length := by rw [dpLength hd]; exact h
    exact ⟨xs, xs[i], ex_l e hx, List.getElem?_eq_getElem hl⟩
  yld := fun i d F' H' x H2 e fh hi y => by
    obtain ⟨rfl, y⟩ := y
    obtain ⟨v, hv, dvv⟩ := dpGet hd hi
    have := y xs (ex_l (e.trans fh) hx)
    rw [hv] at this
    cases this
    exact ⟨F', Gr.refl fh, dp_mono e dvv⟩
theorem itt_of {a : Addr} {xs : List V} {ds : List PyData} {F : Hp} (hx : SqT K F a xs) (hd : DpAll K F xs ds) : ItOf K (Itt K a) F ds where
  stop := fun i H' e h => ⟨xs, ex_t e hx, by rw [dpLength hd]; exact h⟩
  go := fun i H' e h => by
    have hl : i < xs.length := by rw [dpLength hd]; exact h
    exact ⟨xs, xs[i], ex_t e hx, List.getElem?_eq_getElem hl⟩
  yld := fun i d F' H' x H2 e fh hi y => by
    obtain ⟨rfl, y⟩ := y
    obtain ⟨v, hv, dvv⟩ := dpGet hd hi
    have := y xs (ex_t (e.trans fh) hx)
    rw [hv] at this
    cases this
    exact ⟨F', Gr.refl fh, dp_mono e dvv⟩
theorem ji_list {ds : List PyData} (h : JD K M W te ps (.list ds)) : JI K M W (iList K te) ps ds := fun σ F H R fh S k => h.go fh S fun v F1 H1 e p => by
  obtain ⟨a, xs, rfl, hx, hd⟩ := dp_lst p
  exact ⟨a, rfl, ⟨xs, ex_l e.fh hx⟩, k _ F1 H1 e (itl_of hx hd)⟩
theorem ji_tup {ds : List PyData} (h : JD K M W te ps (.tuple ds)) : JI K M W (iTup K te) ps ds := fun σ F H R fh S k => h.go fh S fun v F1 H1 e p => by
  obtain ⟨a, xs, rfl, hx, hd⟩ := dp_tup p
  exact ⟨a, rfl, ⟨xs, ex_t e.fh hx⟩, k _ F1 H1 e (itt_of hx hd)⟩
/-- the ints lo, lo + 1, .. -/
def rg (lo : Int) (n : Nat) : List Int := (List.range n).map fun i => lo + (i : Nat)
theorem rg_length (lo : Int) (n : Nat) : (rg lo n).length = n := by unfold rg; rw [List.length_map, List.length_range]
theorem rg_get {lo : Int} {n i : Nat} (h : i < n) : (rg lo n)[i]? = some (lo + (i : Nat)) := by
  unfold rg
  rw [List.getElem?_map, List.getElem?_range h]
  rfl
theorem itr_of {lo : Int} {n : Nat} {F : Hp} : ItOf K (Itr lo n) F ((rg lo n).map PyData.int) where
  stop := fun i H' e h => by
    rw [List.length_map, rg_length] at h
    exact h
  go := fun i H' e h => by
    rw [List.length_map, rg_length] at h
    exact h
  yld := fun i d F' H' x H2 e fh hi y => by
    obtain ⟨e2, e1⟩ := y
    subst e1
    subst e2
    have hl : i < n := by
      have := (List.getElem?_eq_some_iff.mp hi).1
      rw [List.length_map, rg_length] at this
      exact this
    rw [List.getElem?_map, rg_get hl] at hi
    cases hi
    exact ⟨F', Gr.refl fh, .int _⟩
theorem ji_rng1 {tr : TA} {n : Int} (h : JA K M W tr ps [dv K (.int n)]) (hn : -100000 ≤ n ∧ n ≤ 100000) : JI K M W (iRng1 tr) ps ((rg 0 n.toNat).map PyData.int) := fun σ F H R fh S k => h σ F H _ fh S fun us F1 H1 e1 a => by
  obtain ⟨v, rfl, p⟩ := allP1 a
  rw [dp_int p]
  exact ⟨n, rfl, by omega, by omega, k _ F1 H1 e1 itr_of⟩
theorem ji_rng2 {tr : TA} {lo n : Int} (h : JA K M W tr ps [dv K (.int lo), dv K (.int n)]) (hn : -100000 ≤ lo ∧ lo ≤ 100000 ∧ -100000 ≤ n ∧ n ≤ 100000) : JI K M W (iRng2 tr) ps ((rg lo (n - lo).toNat).map PyData.int) := fun σ F H R fh S k => h σ F H _ fh S fun us F1 H1 e1 a => by
  obtain ⟨v, u, rfl, p, q⟩ := allP2 a
  rw [dp_int p, dp_int q]
  exact ⟨lo, n, rfl, ⟨by omega, by omega, by omega, by omega⟩, k _ F1 H1 e1 itr_of⟩
/-- numbered -/
def nb (ds : List PyData) : List PyData := (List.range ds.length).zipWith (fun i d => PyData.tuple [.int (i : Nat), d]) ds
theorem nb_length (ds : List PyData) : (nb ds).length = ds.length := by unfold nb; simp
theorem nb_get {ds : List PyData} {i : Nat} {d : PyData} (h : ds[i]? = some d) : (nb ds)[i]? = some (.tuple [.int (i : Nat), d]) := by
  have hl := (List.getElem?_eq_some_iff.mp h).1
  unfold nb
  rw [List.getElem?_zipWith, List.getElem?_range hl, h]
theorem ite_of {a : Addr} {xs : List V} {ds : List PyData} {F : Hp} (hx : SqL K F a xs) (hd : DpAll K F xs ds) : ItOf K (Ite K a) F (nb ds) where
  stop := fun i H' e h => ⟨xs, ex_l e hx, by rw [dpLength hd]; rw [nb_length] at h; exact h⟩
  go := fun i H' e h => by
    have hl : i < xs.length := by rw [dpLength hd]; rw [nb_length] at h; exact h
    exact ⟨xs, xs[i], ex_l e hx, List.getElem?_eq_getElem hl⟩
  yld := fun i d F' H' x H2 e fh hi y => by
    obtain ⟨T, y0, rfl, nT, rfl, f⟩ := y
    have hl : i < ds.length := by
      have := (List.getElem?_eq_some_iff.mp hi).1
      rw [nb_length] at this
      exact this
    rw [nb_get (List.getElem?_eq_getElem hl)] at hi
    cases hi
    obtain ⟨v, hv, dvv⟩ := dpGet hd (List.getElem?_eq_getElem hl)
    have := f xs (ex_l (e.trans fh) hx)
    rw [hv] at this
    cases this
    exact ⟨_, Gr.new fh nT, .tup (st_of upd_same) (.cons (.int _) (.cons (dp_mono (e.trans (Gr.new (o := .tup [.int (i : Nat), y0]) fh nT).ff) dvv) .nil))⟩
theorem iteT_of {a : Addr} {xs : List V} {ds : List PyData} {F : Hp} (hx : SqT K F a xs) (hd : DpAll K F xs ds) : ItOf K (IteT K a) F (nb ds) where
  stop := fun i H' e h => ⟨xs, ex_t e hx, by rw [dpLength hd]; rw [nb_length] at h; exact h⟩
  go := fun i H' e h => by
    have hl : i < xs.length := by rw [dpLength hd]; rw [nb_length] at h; exact h
    exact ⟨xs, xs[i], ex_t e hx, List.getElem?_eq_getElem hl⟩
  yld := fun i d F' H' x H2 e fh hi y => by
    obtain ⟨T, y0, rfl, nT, rfl, f⟩ := y
    have hl : i < ds.length := by
      have := (List.getElem?_eq_some_iff.mp hi).1
      rw [nb_length] at this
      exact this
    rw [nb_get (List.getElem?_eq_getElem hl)] at hi
    cases hi
    obtain ⟨v, hv, dvv⟩ := dpGet hd (List.getElem?_eq_getElem hl)
    have := f xs (ex_t (e.trans fh) hx)
    rw [hv] at this
    cases this
    exact ⟨_, Gr.new fh nT, .tup (st_of upd_same) (.cons (.int _) (.cons (dp_mono (e.trans (Gr.new (o := .tup [.int (i : Nat), y0]) fh nT).ff) dvv) .nil))⟩
theorem ji_enum {ds : List PyData} (h : JD K M W te ps (.list ds)) : JI K M W (iEnum K (tCons te tNil)) ps (nb ds) := fun σ F H R fh S k => h.go fh S fun v F1 H1 e p => by
  obtain ⟨a, xs, rfl, hx, hd⟩ := dp_lst p
  exact ⟨a, xs, rfl, ex_l e.fh hx, k _ F1 H1 e (ite_of hx hd)⟩
theorem ji_enumT {ds : List PyData} (h : JD K M W te ps (.tuple ds)) : JI K M W (iEnumT K (tCons te tNil)) ps (nb ds) := fun σ F H R fh S k => h.go fh S fun v F1 H1 e p => by
  obtain ⟨a, xs, rfl, hx, hd⟩ := dp_tup p
  exact ⟨a, xs, rfl, ex_t e.fh hx, k _ F1 H1 e (iteT_of hx hd)⟩
theorem ji_is {wi : TI} {ds es : List PyData} (h : JI K M W wi ps ds) (e : ds = es) : JI K M W wi ps es := e ▸ h
/-- a for: m turns go on (f tells what is known ahead of each), then it ends, or the turn m leaves it by r -/
theorem js_for {wi : TI} {g : TG} {ds : List PyData} {tb : TS} (f : Nat → Kn) (m : Nat) (hi : JI K M W wi ps ds) (h0 : f 0 = ps) (hm : m ≤ ds.length)
    (hs : ∀ i d, i < m → ds[i]? = some d → ∃ qs, JG vs g (f i) (dv K d) qs ∧ (JS K M W tb qs (.nx (f (i + 1))) ∨ JS K M W tb qs (.ct (f (i + 1)))))
    (he : (m = ds.length ∧ r = .nx (f m)) ∨ (∃ d qs, ds[m]? = some d ∧ JG vs g (f m) (dv K d) qs ∧ JS K M W tb qs r ∧ ((∃ P, r = .rt P) ∨ ∃ e, r = .er e)))
    (hf : ∀ i, (f i).length = ps.length := by intro i; first | rfl | (simp; done)) : JS K M W (tFor wi g tb) ps r := fun D σ F H fh S k => hi σ F H _ fh S fun J F1 H1 e1 it => by
  refine ⟨fun i n σ' H' => n = ds.length - i ∧ i ≤ m ∧ ∃ F', Gr F1 H1 F' H' ∧ Sl F' σ' (f i), ⟨ds.length, by omega, Nat.zero_le _, F1, Gr.refl e1.fh, by rw [h0]; exact S.mono e1.ff⟩, ?_⟩
  rintro i n σ' H' ⟨rfl, him, F2, e2, S2⟩
  by_cases hlt : i < m
  · have hl : i < ds.length := Nat.lt_of_lt_of_le hlt hm
    refine .inr ⟨it.go i H' (e2.ff.trans e2.fh) hl, fun σ3 H3 => ∃ F3, Gr F1 H1 F3 H3 ∧ Sl F3 σ3 (f (i + 1)), fun σ3 H3 q => ⟨ds.length - (i + 1), by omega, rfl, hlt, q⟩, fun x H3 y => ?_⟩
    obtain ⟨F3, e3, dx⟩ := it.yld i _ F2 H' x H3 e2.ff e2.fh (List.getElem?_eq_getElem hl) y
    obtain ⟨qs, hg, hb⟩ := hs i _ hlt (List.getElem?_eq_getElem hl)
    refine hg x σ' F3 H3 _ e3.fh (S2.mono e3.ff) dx fun σ4 F4 H4 e4 S4 _ => ?_
    rcases hb with hb | hb
    · exact hb _ σ4 F4 H4 e4.fh S4 fun σ5 F5 H5 e5 S5 => ⟨F5, ((e2.trans e3).trans e4).trans e5, S5⟩
    · exact hb _ σ4 F4 H4 e4.fh S4 fun σ5 F5 H5 e5 S5 => ⟨F5, ((e2.trans e3).trans e4).trans e5, S5⟩
  · have hem : i = m := by omega
    subst hem
    rcases he with ⟨hlen, hr⟩ | ⟨d, qs, hd, hg, hb, hr⟩
    · subst hr
      exact .inl ⟨it.stop i H' (e2.ff.trans e2.fh) (by omega), k σ' F2 H' (e1.trans e2) S2⟩
    · have hl : i < ds.length := (List.getElem?_eq_some_iff.mp hd).1
      refine .inr ⟨it.go i H' (e2.ff.trans e2.fh) hl, fun _ _ => False, fun _ _ z => z.elim, fun x H3 y => ?_⟩
      obtain ⟨F3, e3, dx⟩ := it.yld i _ F2 H' x H3 e2.ff e2.fh hd y
      refine hg x σ' F3 H3 _ e3.fh (S2.mono e3.ff) dx fun σ4 F4 H4 e4 S4 u4 => hb _ σ4 F4 H4 e4.fh S4 ?_
      have ql : qs.length = ps.length := by rw [← S4.1, u4.len, S2.1, hf]
      rw [ql]
      have k2 := Wsh.step (((e1.trans e2).trans e3).trans e4) k
      rcases hr with ⟨P, rfl⟩ | ⟨e, rfl⟩
      · exact k2
      · exact k2
/-! ### comprehensions -/
theorem filter_take_succ {α : Type} {b : α → Bool} {xs : List α} {i : Nat} {x : α} (h : xs[i]? = some x) : (xs.take (i + 1)).filter b = (xs.take i).filter b ++ (if b x then [x] else []) := by
  rw [List.take_succ, h, List.filter_append]
  cases hb : b x <;> simp [hb]
/-- a list that grows lies at D: not told at F -/
structure Acc (K : PySem.W.Frag) (D : Addr) (F1 H1 F H : Hp) (ds : List PyData) : Prop where
  gr : Gr F1 H1 F H
  off : F D = none
  at_ : ∃ acc, H D = some (.lst acc) ∧ DpAll K F acc ds
theorem gr_mut {F1 H1 F H : Hp} {D : Addr} {o : HO} (g : Gr F1 H1 F H) (h1 : H1 D = none) (off : F D = none) : Gr F1 H1 F (upd H D o) := ⟨g.ff, g.hh.mut h1, g.fh.mut off, g.nw⟩
theorem gr_in {F1 H1 F H : Hp} {D : Addr} {o : HO} (g : Gr F1 H1 F H) (h1 : H1 D = none) (off : F D = none) (at_ : H D = some o) : Gr F1 H1 (upd F D o) H := ⟨g.ff.trans (Ex.new off), g.hh, fun a u e => by
  by_cases z : a = D
  · subst z
    rw [upd_same] at e
    cases e
    exact at_
  · rw [upd_ne z] at e
    exact g.fh a u e, fun a ha hf => by
  have : a ≠ D := fun z => by
    subst z
    exact ha h1
  rw [upd_ne this]
  exact g.nw a ha hf⟩
theorem Acc.start {D : Addr} {F H : Hp} (fh : Ex F H) (hD : H D = none) : Acc K D F H F (upd H D (.lst [])) [] := ⟨gr_mut (Gr.refl fh) hD (fresh_back fh hD), fresh_back fh hD, [], upd_same, .nil⟩
theorem Acc.step {D : Addr} {F1 H1 F H F2 H2 : Hp} {ds : List PyData} (a : Acc K D F1 H1 F H ds) (g : Gr F H F2 H2) : Acc K D F1 H1 F2 H2 ds := by
  obtain ⟨acc, h, d⟩ := a.at_
  exact ⟨a.gr.trans g, g.nw D (by rw [h]; exact fun z => nomatch z) a.off, acc, g.hh _ _ h, dpAll_mono g.ff d⟩
theorem Acc.app {D : Addr} {F1 H1 F H : Hp} {ds : List PyData} {v : V} {d : PyData} {acc : List V} (a : Acc K D F1 H1 F H ds) (h1 : H1 D = none) (hacc : H D = some (.lst acc)) (p : Dp K F v d) : Acc K D F1 H1 F (upd H D (.lst (acc ++ [v]))) (ds ++ [d]) := by
  obtain ⟨acc2, h, dd⟩ := a.at_
  rw [hacc] at h
  cases h
  exact ⟨gr_mut a.gr h1 a.off, a.off, _, upd_same, dpApp dd (.cons p .nil)⟩
theorem Acc.len {D : Addr} {F1 H1 F H : Hp} {ds : List PyData} {acc : List V} (a : Acc K D F1 H1 F H ds) (hacc : H D = some (.lst acc)) : acc.length = ds.length := by
  obtain ⟨acc2, h, dd⟩ := a.at_
  rw [hacc] at h
  cases h
  exact dpLength dd
/-- it is told from now on -/
theorem Acc.done {D : Addr} {F1 H1 F H : Hp} {ds : List PyData} (a : Acc K D F1 H1 F H ds) (h1 : H1 D = none) : ∃ F', Gr F1 H1 F' H ∧ Dp K F' (.ref D) (.list ds) ∧ Ex F F' := by
  obtain ⟨acc, h, dd⟩ := a.at_
  exact ⟨upd F D (.lst acc), gr_in a.gr h1 a.off h, .lst (sq_of upd_same) (dpAll_mono (Ex.new a.off) dd), Ex.new a.off⟩
/-- [e for x in ds if b], the items told by xs -/
theorem je_lc {α : Type} {wi : TI} {g : TG} (xs : List α) (enc : α → PyData) (b : α → Bool) (e : α → PyData) {W' : WX} (hi : JI K M W wi ps (xs.map enc)) (hlen : xs.length ≤ 90000)
    (hs : ∀ x ∈ xs, ∃ qs, JG vs g (wipeK ps vs) (dv K (enc x)) qs ∧ JT K M W' t qs (b x) ∧ (b x = true → JD K M W' te qs (e x))) : JD K M W (tLc wi g t te vs) ps (.list ((xs.filter b).map e)) := fun σ F H Q fh S k => hi σ F H _ fh S fun J F1 H1 e1 it D hD => by
  refine ⟨fun i n H' => n = xs.length - i ∧ i ≤ xs.length ∧ ∃ F', Acc K D F1 H1 F' H' (((xs.take i).filter b).map e), ⟨xs.length, by omega, Nat.zero_le _, F1, Acc.start e1.fh hD⟩, ?_⟩
  rintro i n H' ⟨rfl, him, F2, A⟩
  have accLen : (((xs.take i).filter b).map e).length ≤ i := by
    rw [List.length_map]
    have := List.length_filter_le b (xs.take i)
    rw [List.length_take] at this
    omega
  by_cases hlt : i < xs.length
  · have hx : xs[i]? = some xs[i] := List.getElem?_eq_getElem hlt
    have hmem : xs[i] ∈ xs := List.getElem_mem hlt
    have hex : (xs.map enc)[i]? = some (enc xs[i]) := by rw [List.getElem?_map, hx] <;> rfl
    refine .inr ⟨it.go i H' (A.gr.ff.trans A.gr.fh) (by rw [List.length_map]; exact hlt), fun H3 => ∃ F3, Acc K D F1 H1 F3 H3 (((xs.take (i + 1)).filter b).map e), fun H3 q => ⟨xs.length - (i + 1), by omega, rfl, hlt, q⟩, fun x H3 y => ?_⟩
    obtain ⟨F3, e3, dx⟩ := it.yld i _ F2 H' x H3 A.gr.ff A.gr.fh hex y
    have A3 := A.step e3
    obtain ⟨qs, hg, ht, he⟩ := hs xs[i] hmem
    refine hg x (wipe σ vs) F3 H3 _ e3.fh ((S.mono (e1.ff.trans A3.gr.ff)).wipe vs) dx fun σ4 F4 H4 e4 S4 u4 => ⟨wipe_upto (upto_wipe.trans u4), ht σ4 F4 H4 _ e4.fh S4 fun F5 H5 e5 => ?_⟩
    have A5 := (A3.step e4).step e5
    have ff := filter_take_succ (b := b) hx
    cases hb : b xs[i] with
    | true =>
      rw [hb] at ff
      show te σ4 H5 _
      refine (he hb).go e5.fh (S4.mono e5.ff) fun v F6 H6 e6 p => ?_
      have A6 := A5.step e6
      obtain ⟨acc, h6, _⟩ := A6.at_
      refine ⟨acc, h6, sz_lt (by rw [A6.len h6]; omega), F6, ?_⟩
      rw [ff, List.map_append]
      exact A6.app hD h6 p
    | false =>
      rw [hb] at ff
      show ∃ F3, Acc K D F1 H1 F3 H5 _
      rw [ff]
      simp only [Bool.false_eq_true, if_false, List.append_nil]
      exact ⟨F5, A5⟩
  · have hem : i = xs.length := by omega
    subst hem
    rw [List.take_length] at A
    obtain ⟨F3, g3, d3, _⟩ := A.done hD
    exact .inl ⟨it.stop _ H' (A.gr.ff.trans A.gr.fh) (by rw [List.length_map]; exact Nat.le_refl _), k _ F3 H' (e1.trans g3) d3⟩
theorem flatMap_take_succ {α β : Type} {f : α → List β} {xs : List α} {i : Nat} {x : α} (h : xs[i]? = some x) : (xs.take (i + 1)).flatMap f = (xs.take i).flatMap f ++ f x := by
  rw [List.take_succ, h, List.flatMap_append]
  simp
theorem flatMap_take_le {α β : Type} (f : α → List β) (xs : List α) (i : Nat) : ((xs.take i).flatMap f).length ≤ (xs.flatMap f).length := by
  conv => rhs; rw [← List.take_append_drop i xs]
  rw [List.flatMap_append, List.length_append]
  omega
/-- [e for x in ds for y in (those of x) if b], the first clause without a test -/
theorem je_lc2 {α β : Type} {wi wi1 : TI} {g g1 : TG} {u : TT} {vs1 : List Nat} (xs : List α) (ys : α → List β) (enc : α → PyData) (enc1 : β → PyData) (b : α → β → Bool) (e : α → β → PyData) {W' : WX} (hi : JI K M W wi ps (xs.map enc))
    (hlen : (xs.flatMap fun x => ((ys x).filter (b x)).map (e x)).length ≤ 90000)
    (hs : ∀ x ∈ xs, ∃ qs, JG vs g (wipeK ps vs) (dv K (enc x)) qs ∧ JT K M W' t qs true ∧ JI K M W' wi1 qs ((ys x).map enc1) ∧
      ∀ y ∈ ys x, ∃ rs, JG vs1 g1 (wipeK qs vs1) (dv K (enc1 y)) rs ∧ JT K M W' u rs (b x y) ∧ (b x y = true → JD K M W' te rs (e x y))) :
    JD K M W (tLc2 wi g t wi1 g1 u te vs vs1) ps (.list (xs.flatMap fun x => ((ys x).filter (b x)).map (e x))) := fun σ F H Q fh S k => hi σ F H _ fh S fun J F1 H1 e1 it D hD => by
  let out : α → List PyData := fun x => ((ys x).filter (b x)).map (e x)
  refine ⟨fun i n H' => n = xs.length - i ∧ i ≤ xs.length ∧ ∃ F', Acc K D F1 H1 F' H' ((xs.take i).flatMap out), ⟨xs.length, by omega, Nat.zero_le _, F1, Acc.start e1.fh hD⟩, ?_⟩
  rintro i n H' ⟨rfl, him, F2, A⟩
  by_cases hlt : i < xs.length
  · have hx : xs[i]? = some xs[i] := List.getElem?_eq_getElem hlt
    have hmem : xs[i] ∈ xs := List.getElem_mem hlt
    have hex : (xs.map enc)[i]? = some (enc xs[i]) := by rw [List.getElem?_map, hx] <;> rfl
    refine .inr ⟨it.go i H' (A.gr.ff.trans A.gr.fh) (by rw [List.length_map]; exact hlt), fun H3 => ∃ F3, Acc K D F1 H1 F3 H3 ((xs.take (i + 1)).flatMap out), fun H3 q => ⟨xs.length - (i + 1), by omega, rfl, hlt, q⟩, fun x H3 y => ?_⟩
    obtain ⟨F3, e3, dx⟩ := it.yld i _ F2 H' x H3 A.gr.ff A.gr.fh hex y
    have A3 := A.step e3
    obtain ⟨qs, hg, ht, hi1, hin⟩ := hs xs[i] hmem
    refine hg x (wipe σ vs) F3 H3 _ e3.fh ((S.mono (e1.ff.trans A3.gr.ff)).wipe vs) dx fun σ4 F4 H4 e4 S4 u4 => ⟨wipe_upto (upto_wipe.trans u4), ht σ4 F4 H4 _ e4.fh S4 fun F5 H5 e5 => ?_⟩
    have A5 := (A3.step e4).step e5
    show wi1 σ4 H5 _
    refine hi1 σ4 F5 H5 _ e5.fh (S4.mono e5.ff) fun J1 F6 H6 e6 it1 => ?_
    have A6 := A5.step e6
    have pre := flatMap_take_le out xs (i + 1)
    rw [flatMap_take_succ hx, List.length_append] at pre
    refine ⟨fun j n H' => n = (ys xs[i]).length - j ∧ j ≤ (ys xs[i]).length ∧ ∃ F', Ex F6 F' ∧ Acc K D F1 H1 F' H' ((xs.take i).flatMap out ++ (((ys xs[i]).take j).filter (b xs[i])).map (e xs[i])), ⟨(ys xs[i]).length, by omega, Nat.zero_le _, F6, Ex.refl _, by simpa using A6⟩, ?_⟩
    rintro j n H7 ⟨rfl, hj, F7, x67, A7⟩
    by_cases hjl : j < (ys xs[i]).length
    · have hy : (ys xs[i])[j]? = some (ys xs[i])[j] := List.getElem?_eq_getElem hjl
      have ymem : (ys xs[i])[j] ∈ ys xs[i] := List.getElem_mem hjl
      have hey : ((ys xs[i]).map enc1)[j]? = some (enc1 (ys xs[i])[j]) := by rw [List.getElem?_map, hy] <;> rfl
      refine .inr ⟨it1.go j H7 (x67.trans A7.gr.fh) (by rw [List.length_map]; exact hjl), fun H8 => ∃ F8, Ex F6 F8 ∧ Acc K D F1 H1 F8 H8 ((xs.take i).flatMap out ++ (((ys xs[i]).take (j + 1)).filter (b xs[i])).map (e xs[i])), fun H8 q => ⟨(ys xs[i]).length - (j + 1), by omega, rfl, hjl, q⟩, fun x1 H8 y1 => ?_⟩
      obtain ⟨F8, e8, dy⟩ := it1.yld j _ F7 H7 x1 H8 x67 A7.gr.fh hey y1
      have A8 := A7.step e8
      obtain ⟨rs, hg1, ht1, he1⟩ := hin _ ymem
      refine hg1 x1 (wipe σ4 vs1) F8 H8 _ e8.fh ((S4.mono ((e5.ff.trans e6.ff).trans (x67.trans e8.ff))).wipe vs1) dy fun σ9 F9 H9 e9 S9 u9 => ⟨wipe_upto (upto_wipe.trans u9), ht1 σ9 F9 H9 _ e9.fh S9 fun Fa Ha ea => ?_⟩
      have Aa := (A8.step e9).step ea
      have ff := filter_take_succ (b := b xs[i]) hy
      have pre2 : (((ys xs[i]).take j).filter (b xs[i])).length ≤ ((ys xs[i]).filter (b xs[i])).length := by
        conv => rhs; rw [← List.take_append_drop j (ys xs[i])]
        rw [List.filter_append, List.length_append]
        omega
      have lout : (out xs[i]).length = ((ys xs[i]).filter (b xs[i])).length := List.length_map _
      cases hb : b xs[i] (ys xs[i])[j] with
      | true =>
        rw [hb] at ff
        show te σ9 Ha _
        refine (he1 hb).go ea.fh (S9.mono ea.ff) fun v Fb Hb eb p => ?_
        have Ab := Aa.step eb
        obtain ⟨acc, hb6, _⟩ := Ab.at_
        refine ⟨acc, hb6, sz_lt ?_, Fb, ((x67.trans e8.ff).trans e9.ff).trans (ea.ff.trans eb.ff), ?_⟩
        · rw [Ab.len hb6, List.length_append, List.length_map]
          have h1 : (xs.flatMap out).length ≤ 90000 := hlen
          omega
        · rw [ff, List.map_append, ← List.append_assoc]
          exact Ab.app hD hb6 p
      | false =>
        rw [hb] at ff
        show ∃ F8, Ex F6 F8 ∧ Acc K D F1 H1 F8 Ha _
        rw [ff]
        simp only [Bool.false_eq_true, if_false, List.append_nil]
        exact ⟨Fa, ((x67.trans e8.ff).trans e9.ff).trans ea.ff, Aa⟩
    · have hem : j = (ys xs[i]).length := by omega
      subst hem
      rw [List.take_length] at A7
      refine .inl ⟨it1.stop _ H7 (x67.trans A7.gr.fh) (by rw [List.length_map]; exact Nat.le_refl _), F7, ?_⟩
      rw [flatMap_take_succ hx]
      exact A7
  · have hem : i = xs.length := by omega
    subst hem
    rw [List.take_length] at A
    obtain ⟨F3, g3, d3, _⟩ := A.done hD
    exact .inl ⟨it.stop _ H' (A.gr.ff.trans A.gr.fh) (by rw [List.length_map]; exact Nat.le_refl _), k _ F3 H' (e1.trans g3) d3⟩
end
end EB

/-! EB5: errors with a field, raise, methods and making where what is raised is wished for at the slots, fields, isinstance, try. -/
namespace EB
open PySem PySem.Spec PyProof.Rows L2 Evl
/-! ### rules -/
section
variable {X : Cx} {CX : CXT} {k : Nat} {f C : Addr} {fd : FuncData} {ps : List Str} {sp : Sp} {E : L2.St → XK} {x m : Str} {p pos apos : Pos} {e o : Expr} {es : List Expr} {ta : TE} {t : TA}
/-- C(..), at the slots -/
def tMakeS (C : Addr) (sp : Sp) (E : L2.St → XK) (t : TA) : TE := fun σ H Q => tMake C sp [] (E σ) t σ H Q
theorem pe_makeS (M : Mk X.K C f) (F : FnOk X.prog X.w X.K X.mg X.base CX k f fd ps sp) (hr : Room (k + 1) X.A) (hg : Gl X x) (hm : X.mg x = some (.ref C)) (hb : Binds X.K fd ps []) (hx : ∀ σ, PassesAt CX X σ (E σ))
    (ha : PA X (e :: es) t) (hdb : (x == ("__debug__" : Str)) = false := by decide) (he : starEach (e :: es) X.env = (false, eval e X.env) :: starEach es X.env := by rfl) (hpl : (backTo pos (starEach es X.env)).any (·.1) = false := by rfl) :
    PE X (.Call (.Name x p) (e :: es) [] pos) (tMakeS C sp E t) := by
  refine ⟨fun pins s σ H Q I hyp => wpAny_Call_Name_kw (ld_glob I hg hm ?_ hdb)⟩
  refine PySem.W.callWith_K (h₀ := X.base) I.ok.mod.kin M.kp (thn (ha.run pos pins s σ H _ I hyp) fun us t1 ⟨vs, H1, I1, rr, want⟩ => ⟨I1.kIn, ?_⟩) he hpl
  have w1 := want (t1.heap.objs.size + 1) t1.heap.objs.size (I1.hok.fresh (Nat.le_succ _)) (I1.hok.fresh (Nat.le_refl _)) (Nat.ne_of_lt (Nat.lt_succ_self _))
  rw [List.append_nil] at w1
  have I2 := Inv.made (C := C) I1
  have r2 : Vals (V.ref (t1.heap.objs.size + 1) :: vs) (Value.ref (t1.heap.objs.size + 1) :: us) := .cons rfl rr
  have len2 : (Value.ref (t1.heap.objs.size + 1) :: us).length = ps.length := by
    have q := r2.length
    rw [F.len _ _ _ _ w1] at q
    exact q.symm
  have bnd := hb _ (Value.ref (t1.heap.objs.size + 1) :: us) I2.kIn (by rw [List.append_nil]; exact len2)
  rw [List.append_nil] at bnd
  refine wpAny_call (make_map (f := f) I1.kIn M.makes M.init (beq_iff_eq.mp M.fn) (codeAny_mono (F.run _ X.stack _ _ ⟨Value.ref (t1.heap.objs.size + 1) :: us, []⟩ (Value.ref (t1.heap.objs.size + 1) :: us) _ _ (E σ) (hr.make C us [])
    (I2.env0.make C us []) bnd r2 w1) fun r t2 got => ?_))
  cases r with
  | error er => exact hx σ pins _ _ er t2 I2 got
  | ok fl =>
    cases fl with
    | ret u =>
      obtain ⟨v, H2, I3, rv, ev, q3⟩ := I2.after got
      subst ev
      exact ⟨rv, ⟨V.ref (t1.heap.objs.size + 1), H2, I3, rfl, q3⟩⟩
    | next => exact got.elim
    | brk => exact got.elim
    | cont => exact got.elim
/-- o.m(e, ..), at the slots -/
def tMethW (C : Addr) (m : Str) (sp : Sp) (E : L2.St → XK) (ta : TE) (t : TA) : TE := fun σ H Q => tMeth C m sp [] (E σ) ta t σ H Q
theorem pe_methW {pl : Sem Bool} (he : PE X o ta) (c : Cls X.K C) (hm : Meth X.K C m f) (F : FnOk X.prog X.w X.K X.mg X.base CX k f fd ps sp) (hr : Room k X.A) (hb : Binds X.K fd ps []) (hx : ∀ σ, PassesAt CX X σ (E σ)) (ha : PA X (e :: es) t)
    (hst : starEach (e :: es) X.env = (false, eval e X.env) :: starEach es X.env := by rfl) (hpl : (backTo pos (starEach es X.env)).any (·.1) = false := by rfl)
    (ht : eval (.Call (.Attribute o m apos) (e :: es) [] pos) X.env = (do
      let whom ← eval o X.env
      standAt apos.atName
      let (fn, before) ← holding [whom] (getMethod whom m pl)
      callWith pos fn before (backTo pos (starEach (e :: es) X.env)) (backToKw pos (keywordEach [] X.env))) := by rfl) :
    PE X (.Call (.Attribute o m apos) (e :: es) [] pos) (tMethW C m sp E ta t) := by
  refine ⟨fun pins s σ H Q I hyp => PySem.W.methodCall_KW (pl := pl) (thn (he.run pins s σ H _ I hyp) fun u t1 ⟨x, H1, I1, rx, a, dx, fs, ex, ea, l, q⟩ => ?_) ht⟩
  subst ex
  obtain rfl : u = Value.ref a := rx
  refine getmeth_ok I1 ea c hm l (PySem.W.callWith_K (first := [.ref a]) (h₀ := X.base) I.ok.mod.kin hm.kp (thn (ha.run pos pins t1 σ H1 _ I1 q) fun us t2 ⟨vs, H2, I2, r, q2⟩ => ⟨I2.kIn, ?_⟩) hst hpl)
  have q3 := q2
  dsimp only at q3
  rw [List.append_nil] at q3
  exact run_fnS (us := .ref a :: us) (vs := .ref a :: vs) F hr hb (hx σ) I2 (.cons rfl r) q3
theorem pe_methW0 {pl : Sem Bool} (he : PE X o ta) (c : Cls X.K C) (hm : Meth X.K C m f) (F : FnOk X.prog X.w X.K X.mg X.base CX k f fd ps sp) (hr : Room k X.A) (hb : Binds X.K fd ps []) (hx : ∀ σ, PassesAt CX X σ (E σ))
    (ht : eval (.Call (.Attribute o m apos) [] [] pos) X.env = (do
      let whom ← eval o X.env
      standAt apos.atName
      let (fn, before) ← holding [whom] (getMethod whom m pl)
      callWith pos fn before (backTo pos (starEach [] X.env)) (backToKw pos (keywordEach [] X.env))) := by rfl) :
    PE X (.Call (.Attribute o m apos) [] [] pos) (tMethW C m sp E ta tNil) := by
  refine ⟨fun pins s σ H Q I hyp => PySem.W.methodCall_KW (pl := pl) (thn (he.run pins s σ H _ I hyp) fun u t1 ⟨x, H1, I1, rx, a, dx, fs, ex, ea, l, q⟩ => ?_) ht⟩
  subst ex
  obtain rfl : u = Value.ref a := rx
  exact getmeth_ok I1 ea c hm l (PySem.W.callWith_K0 (first := [.ref a]) I1.kIn hm.kp (run_fnS (us := [.ref a]) (vs := [.ref a]) F hr hb (hx σ) I1 (.cons rfl .nil) q))
end
/-! ### an error's class -/
/-- __init__(self, f): self.f = f -/
def spErr (C : Addr) (f : Str) : Sp := fun vs H Q _ => ∃ a u, vs = [.ref a, u] ∧ H a = some (exo a C none) ∧ ∀ dx, H dx = none → dx ≠ a → Q .non (upd (upd H dx (exd dx [(f, u)])) a (exo a C (some dx)))
/-- what the written part says of an error's class C (its __init__ at fI) -/
structure ErT (K : PySem.W.Frag) (C fI : Addr) (f : Str) : Prop where
  ox : OexC K C
  iC : PySem.W.findIn K (.ref C) "__init__" = some (some (.ref fI))
  tI : PySem.W.typeIn K (.ref fI) = some (.type "function")
  nf : PySem.W.findIn K (.ref C) f = some none
  xf : XfC K C
  ek : ExK K C
section
variable {K : PySem.W.Frag} {M : EC → Addr} {W : WX} {ps qs : Kn} {te ta tb : TE} {tr : TA} {t : TT} {ts tu : TS} {r : Res}
/-- raise C(e) -/
def tRs (C : Addr) (f : Str) (W : WX) (tr : TA) : TS := fun _ σ H => tMkO C (spErr C f) [] tr σ H fun cls d H' => W cls d σ H'
theorem js_raise {c : EC} {d : PyData} (h : JA K M W tr ps [dv K d]) : JS K M W (tRs (M c) c.fld W tr) ps (.er ⟨c, d⟩) := fun D σ F H fh S k => h σ F H _ fh S fun vs F1 H1 e1 a => by
  obtain ⟨v, rfl, p⟩ := allP1 a
  refine ⟨by show 1 ≤ 1000; decide, fun x hx => ⟨x, v, rfl, upd_same, fun dx hdx ne => ⟨rfl, dx, [(c.fld, v)], upd_same, ?_, ?_, ?_⟩⟩⟩
  · rw [upd_ne ne, upd_same]
  · rw [upd_ne ne] at hdx
    exact hdx
  · have h1 : H1 dx = none := by
      rw [upd_ne ne] at hdx
      exact hdx
    have key : Ex H1 (upd (del (upd (upd (upd H1 x (exo x (M c) none)) dx (exd dx [(c.fld, v)])) x (exo x (M c) (some dx))) x) dx (.xd [(c.fld, v)])) := fun b u q => by
      have nx : b ≠ x := ne_of_none q hx
      have nd : b ≠ dx := ne_of_none q h1
      rw [upd_ne nd, del_ne nx, upd_ne nx, upd_ne nd, upd_ne nx]
      exact q
    exact k dx v σ F1 _ (e1.trans (Gr.heap e1.fh key)) (fresh_back e1.hh h1) upd_same p S.1
/-! ### objects: a floor -/
def pD (p : Int × Int) : PyData := .tuple [.int p.1, .int p.2]
/-- an instance of C with one attribute, data that never changes -/
def ob1 (K : PySem.W.Frag) (C : Addr) (f : Str) (d : PyData) : PV := ⟨fun H v => ∃ a dx u, v = .ref a ∧ H a = some (.ins C dx [(f, u)]) ∧ Dp K H u d, fun e h => by
  obtain ⟨a, dx, u, h1, h2, h3⟩ := h
  exact ⟨a, dx, u, h1, e _ _ h2, dp_mono e h3⟩⟩
theorem je_fld {C : Addr} {f : Str} {d : PyData} (h : JV K M W te ps (ob1 K C f d)) (c : Cls K C) (n : NoAttr K C f) : JD K M W (tFld K te f) ps d := fun σ F H Q fh S k => h.go fh S fun v F1 H1 e p => by
  obtain ⟨a, dx, u, rfl, ha, hd⟩ := p
  exact ⟨a, C, dx, [(f, u)], u, rfl, e.fh _ _ ha, c, n, by simp [List.lookup], k u F1 H1 e hd⟩
/-- a constant of a class, read off the class -/
theorem je_cval {C : Addr} {mc : Value} {f : Str} {v : V} {u : Value} {P : PV} (h : JV K M W te ps (xv (.ref C))) (r : ClX.CRead K C mc) (c : ClX.CVal K C mc f v u) (hp : ∀ H, P.p H v) : JV K M W (ClX.tCVal K te f) ps P := fun σ F H Q fh S k => h.go fh S fun x F1 H1 e p => ⟨C, mc, v, u, p, r, c, k v F1 H1 e (hp F1)⟩
/-- a method that keeps a promise over data; self is known -/
theorem je_meth {α : Type} {args : α → List PV} {dom : α → Prop} {out : α → Out} {C : Addr} {m f : Str} {d : PyData} (a : α) (hs : JV K M W te ps (ob1 K C f d)) (hm : ¬ m = f) (Ps : List PV) (h : JA K M W tr ps Ps) (ea : args a = ob1 K C f d :: Ps) (hd : dom a) :
    JE K M W (tMethW C m (Prm K M args dom out) (WE W) te tr) ps (out a) := fun σ F H Q fh S k => hs.go fh S fun v F1 H1 e1 p => by
  obtain ⟨b, dx, u, rfl, hb, hdp⟩ := id p
  refine ⟨b, dx, [(f, u)], rfl, e1.fh _ _ hb, ?_, h σ F1 H1 _ e1.fh (S.mono e1.ff) fun vs F2 H2 e2 al => ⟨a, F2, e2.fh, ?_, hd, Then.step (e1.trans e2) k⟩⟩
  · have : (m == f) = false := by simpa using hm
    simp [List.lookup, this]
  · rw [ea, List.append_nil]
    exact .cons (PV.mn _ e2.ff p) al
/-- C(e) where __init__ promises: an instance with one attribute, or an error -/
def spMake (K : PySem.W.Frag) (M : EC → Addr) (C : Addr) (f : Str) {α : Type} (args : α → List PV) (dom : α → Prop) (out : α → Except Er PyData) : Sp := fun vs H Q E => ∃ (a : α) (F : Hp) (x dx : Addr) (us : List V), vs = .ref x :: us ∧ Ex F H ∧ H x = some (.ins C dx []) ∧ F x = none ∧ AllP F us (args a) ∧ dom a ∧
  (match out a with
    | .ok d => ∀ F' H' u, Gr F H F' H' → Dp K F' u d → F' x = none → Q .non (upd H' x (.ins C dx [(f, u)]))
    | .error e => ∀ d u F' H', Gr F H F' H' → H d = none → H' d = some (.xd [(e.c.fld, u)]) → Dp K F' u e.val → E (.ref (M e.c)) (some d) H')
def mkOut (K : PySem.W.Frag) (C : Addr) (f : Str) : Except Er PyData → Out
  | .ok d => .ok (ob1 K C f d)
  | .error e => .er e
theorem je_make {α : Type} {args : α → List PV} {dom : α → Prop} {out : α → Except Er PyData} {C : Addr} {f : Str} (a : α) (h : JA K M W tr ps (args a)) (hd : dom a) : JE K M W (tMakeS C (spMake K M C f args dom out) (WE W) tr) ps (mkOut K C f (out a)) := fun σ F H Q fh S k =>
  h σ F H _ fh S fun vs F1 H1 e1 al x dx hx hdx ne => by
    have exn : Ex H1 (upd (upd H1 dx (.own x)) x (.ins C dx [])) := fun b o q => by
      rw [upd_ne (ne_of_none q hx), upd_ne (ne_of_none q hdx)]
      exact q
    have g0 : Gr F1 H1 F1 (upd (upd H1 dx (.own x)) x (.ins C dx [])) := Gr.heap e1.fh exn
    have fx : F1 x = none := fresh_back e1.fh hx
    refine ⟨a, F1, x, dx, vs, by rw [List.append_nil], g0.fh, upd_same, fx, al, hd, ?_⟩
    cases ho : out a with
    | ok d =>
      rw [ho] at k
      refine fun F' H' u g dd fx' => ⟨rfl, ?_⟩
      have hx' : H' x = some (.ins C dx []) := g.hh _ _ upd_same
      have G1 : Gr F1 H1 F' (upd H' x (.ins C dx [(f, u)])) := ⟨g.ff, (g0.hh.trans g.hh).mut hx, g.fh.mut fx', (g0.trans g).nw⟩
      have G2 := gr_in G1 hx fx' (upd_same (H := H') (a := x) (o := .ins C dx [(f, u)]))
      exact k (.ref x) _ _ (e1.trans G2) ⟨x, dx, u, rfl, upd_same, dp_mono (Ex.new fx') dd⟩
    | error e =>
      rw [ho] at k
      exact fun d u F' H' g hn hd2 dp => k d u F' H' ((e1.trans g0).trans g) (fresh_back (e1.trans g0).hh hn) hd2 dp
/-! ### isinstance -/
def rIs1 (K : PySem.W.Frag) : List V → Hp → VK → Prop := rIsi K
/-- of data (not an object): its type's name -/
def tyName : PyData → String
  | .none => "NoneType"
  | .bool _ => "bool"
  | .int _ => "int"
  | .str _ => "str"
  | .list _ => "list"
  | .tuple _ => "tuple"
  | .dict _ => "dict"
theorem je_isTyI {i : Int} {T : String} {b : Bool} (h : JD K M W te ps (.int i)) (hT : kitB "int" T = some b) : JD K M W (tCB (rIsi K) (tCons te (tCons (tC (.ty T)) tNil))) ps (.bool b) := je_cb (ja_cons h (ja_cons je_x ja_nil)) fun vs F H fh a Q k => by
  obtain ⟨v, u, rfl, p, q⟩ := allP2 a
  rw [dp_int p, show u = V.ty T from q]
  exact ⟨.int i, .ty T, .type "int", .type T, b, rfl, .ty T, .base (.int i), kit_ty hT, k _ F H (Gr.refl fh) (.bl b)⟩
/-- of an instance of an own class -/
theorem je_isOb {C D : Addr} {f : Str} {d : PyData} {b : Bool} (h : JV K M W te ps (ob1 K C f d)) (cl : Cls K C) (ha : PySem.W.findIn K (.ref C) "__class__" = some (some (.builtin "object.__class__")))
    (hn : PySem.W.specialIn K (.builtin "object.__class__") "__get__" = some (some (.builtin "getset_descriptor.__get__"))) (htk : PySem.W.takesIn K (.builtin "object.__class__") = some true) (hm : PySem.W.mroIn K C (.type "object") = some true)
    (hk : PySem.W.kitOne K (.ref C) (.ref D) = some b) : JD K M W (tCB (rIsi K) (tCons te (tCons (tC (.ref D)) tNil))) ps (.bool b) := je_cb (ja_cons h (ja_cons je_x ja_nil)) fun vs F H fh a Q k => by
  obtain ⟨v, u, rfl, p, q⟩ := allP2 a
  rw [show u = V.ref D from q]
  obtain ⟨o, dx, w, rfl, ho, _⟩ := p
  exact ⟨.ref o, .ref D, .ref C, .ref D, b, rfl, .own D, .base (.ins (fh _ _ ho) cl ha hn htk hm), hk, k _ F H (Gr.refl fh) (.bl b)⟩
/-! ### an exception that a suite holds -/
def exv (K : PySem.W.Frag) (a dd : Addr) (f : Str) (d : PyData) : PV := ⟨fun H v => v = .ref a ∧ ∃ u, H dd = some (.xd [(f, u)]) ∧ Dp K H u d, fun e h => by
  obtain ⟨h1, u, h2, h3⟩ := h
  exact ⟨h1, u, e _ _ h2, dp_mono e h3⟩⟩
theorem je_xf {a dd C : Addr} {f : Str} {d : PyData} (h : JV K M W te ps (exv K a dd f d)) : JD K M W (tXf a (.ref C) (some dd) C f te) ps d := fun σ F H Q fh S k => h.go fh S fun v F1 H1 e p => by
  obtain ⟨rfl, u, h2, h3⟩ := p
  exact ⟨rfl, rfl, dd, [(f, u)], u, rfl, e.fh _ _ h2, by simp [List.lookup], k u F1 H1 e h3⟩
theorem je_isEx {a dd C : Addr} {f : Str} {d : PyData} {c : V} {cv : Value} {b : Bool} (h : JV K M W te ps (exv K a dd f d)) (T : ExK K C) (hc : ClsV c cv) (hk : PySem.W.kitOne K (.ref C) cv = some b) : JD K M W (tCB (rIsEx K a (.ref C) (some dd)) (tCons te (tCons (tC c) tNil))) ps (.bool b) := je_cb (ja_cons h (ja_cons je_x ja_nil)) fun vs F H fh al Q k => by
  obtain ⟨v, u, rfl, p, q⟩ := allP2 al
  obtain ⟨rfl, w, h2, h3⟩ := p
  rw [show u = c from q]
  exact ⟨C, c, cv, b, dd, _, rfl, T, rfl, rfl, fh _ _ h2, hc, hk, k _ F H (Gr.refl fh) (.bl b)⟩
theorem je_isExT2 {a dd C C1 C2 : Addr} {f : Str} {d : PyData} {b : Bool} (h : JV K M W te ps (exv K a dd f d)) (T : ExK K C) (hk : PySem.W.kitAny K (.ref C) [.ref C1, .ref C2] = some b) :
    JD K M W (tCB (rIsExT K a (.ref C) (some dd)) (tCons te (tCons (tTup (tCons (tC (.ref C1)) (tCons (tC (.ref C2)) tNil))) tNil))) ps (.bool b) := fun σ F H Q fh S k => h.go fh S fun v F1 H1 e p => by
  obtain ⟨rfl, w, h2, h3⟩ := p
  refine ⟨by show 2 ≤ sizeLine; decide, fun tp htp => ?_⟩
  refine ⟨C, tp, [.ref C1, .ref C2], [.ref C1, .ref C2], b, dd, [(f, w)], rfl, T, rfl, rfl, ?_, upd_same, .cons (.own C1) (.cons (.own C2) .nil), hk, k _ _ _ (e.trans (Gr.new e.fh htp)) (.bl b)⟩
  rw [upd_ne (ne_of_none (e.fh _ _ h2) htp)]
  exact e.fh _ _ h2
/-! ### try -/
theorem js_try_ok {tb : WX → TS} {Wo : WX} {l : List (Value × Nat × (Addr → Value → Option Addr → TS))} (hb : ∀ W', JS K M W' (tb W') ps r) (hr : ∀ e, r ≠ .er e) : JS K M W (fun D σ H => tb (wClauses K Wo D l) D σ H) ps r := fun D σ F H fh S k => hb _ D σ F H fh S (by
  cases r with
  | er e => exact absurd rfl (hr e)
  | nx qs => exact k
  | rt P => exact k
  | bk qs => exact k
  | ct qs => exact k)
/-- the suite of the clause that catches: slot i holds the error, no other slot is known -/
def Suite (K : PySem.W.Frag) (M : EC → Addr) (W : WX) (n i : Nat) (ts : Addr → Value → Option Addr → TS) (e : Er) (P : PV) : Prop :=
  ∀ a dd, JS K M W (ts a (.ref (M e.c)) (some dd)) ((List.replicate n none).set i (some (exv K a dd e.c.fld e.val))) (.rt P)
/-- which clause catches the error: the ones ahead of it do not -/
def Catch (K : PySem.W.Frag) (M : EC → Addr) (W : WX) (n : Nat) (e : Er) (P : PV) : List (Value × Nat × (Addr → Value → Option Addr → TS)) → Prop
  | [] => False
  | (c, i, ts) :: l => (PySem.W.exmOne K (.ref (M e.c)) c = some true ∧ Suite K M W n i ts e P) ∨ (PySem.W.exmOne K (.ref (M e.c)) c = some false ∧ Catch K M W n e P l)
theorem sl_bare {F : Hp} : ∀ σ : L2.St, Sl F σ (List.replicate σ.length none) := fun σ => ⟨by simp, fun i P h => by
  have := List.eq_of_mem_replicate (List.mem_of_getElem? h)
  cases this⟩
theorem catch_ok {Wo : WX} {D : Ends} {e : Er} {P : PV} {n : Nat} : ∀ {l : List (Value × Nat × (Addr → Value → Option Addr → TS))}, Catch K M W n e P l → ∀ {F H F1 H1 : Hp} {σ' : L2.St} {d : Addr} {u : V}, Wsh K M W n D F H (.rt P) → Gr F H F1 H1 → H d = none → H1 d = some (.xd [(e.c.fld, u)]) → Dp K F1 u e.val → σ'.length = n →
    wClauses K Wo D l (.ref (M e.c)) (some d) σ' H1
  | [], h, _, _, _, _, _, _, _, _, _, _, _, _, _ => h.elim
  | (c, i, ts) :: l, h, F, H, F1, H1, σ', d, u, k, g, hn, hd, dp, hl => by
    rcases h with ⟨hx, hs⟩ | ⟨hx, hc⟩
    · refine ⟨true, hx, fun _ a ha => ?_, fun z => Bool.noConfusion z⟩
      have fo : ∀ o, F1 d = some o → o = .xd [(e.c.fld, u)] := fun o ho => by
        have := g.fh _ _ ho
        rw [hd] at this
        exact (Option.some.inj this).symm
      -- the error's dict is told from here on
      have F2 : Ex F1 (upd F1 d (.xd [(e.c.fld, u)])) := fun b o q => by
        by_cases z : b = d
        · subst z
          rw [upd_same, fo o q]
        · rw [upd_ne z]
          exact q
      have fh2 : Ex (upd F1 d (.xd [(e.c.fld, u)])) H1 := fun b o q => by
        by_cases z : b = d
        · subst z
          rw [upd_same] at q
          cases q
          exact hd
        · rw [upd_ne z] at q
          exact g.fh b o q
      have S0 : Sl (upd F1 d (.xd [(e.c.fld, u)])) (σ'.set i (some (.ref a))) ((List.replicate n none).set i (some (exv K a d e.c.fld e.val))) := by
        have := (sl_bare (F := upd F1 d (.xd [(e.c.fld, u)])) σ').set (P := exv K a d e.c.fld e.val) (v := .ref a) i ⟨rfl, u, upd_same, dp_mono F2 dp⟩
        rw [hl] at this
        exact this
      refine hs a d _ (σ'.set i (some (.ref a))) (upd F1 d (.xd [(e.c.fld, u)])) H1 fh2 S0 fun v F3 H3 g3 p => ?_
      exact k v F3 H3 ⟨g.ff.trans (F2.trans g3.ff), g.hh.trans g3.hh, g3.fh, fun b hb hf => g3.nw b (fun z => by
        have := fresh_back g.hh z
        exact hb this) (by
          by_cases z : b = d
          · subst z
            exact absurd hn hb
          · rw [upd_ne z]
            exact g.nw b hb hf)⟩ p
    · exact ⟨false, hx, fun z => Bool.noConfusion z, fun _ => catch_ok hc k g hn hd dp hl⟩
/-- a def's end -/
def Fin (K : PySem.W.Frag) : Res → Out → Prop
  | .rt P, .ok R => P = R
  | .nx _, .ok R => R = dv K .none
  | .er e, .er e' => e = e'
  | _, _ => False
theorem fin_ok {N : List Str} {Ps : List PV} {vs : List V} {F H : Hp} {Q : VK} {E : XK} {o : Out} (h : JS K M (fun cls d _ H => E cls d H) ts (entry N Ps) r) (hf : Fin K r o) (fh : Ex F H) (al : AllP F vs Ps) (th : Then K M F H Q E o) : ts { nx := fun _ H' => Q .non H', rt := Q } (start N vs) H := by
  refine h _ _ F H fh (Sl.start al) ?_
  cases r with
  | rt P =>
    cases o with
    | ok R =>
      cases (show P = R from hf)
      exact fun v F' H' g p => th v F' H' g p
    | er e => exact hf.elim
  | nx qs =>
    cases o with
    | ok R =>
      cases (show R = dv K .none from hf)
      exact fun σ' F' H' g _ => th .non F' H' g .non
    | er e => exact hf.elim
  | er e =>
    cases o with
    | ok R => exact hf.elim
    | er e2 =>
      cases (show e = e2 from hf)
      exact fun d u σ' F' H' g n hd dp _ => th d u F' H' g n hd dp
  | bk qs =>
    cases o <;> exact hf.elim
  | ct qs =>
    cases o <;> exact hf.elim
theorem js_try_er {tb : WX → TS} {Wo : WX} {l : List (Value × Nat × (Addr → Value → Option Addr → TS))} {e : Er} {P : PV} (hb : ∀ W', JS K M W' (tb W') ps (.er e)) (hc : Catch K M W ps.length e P l) : JS K M W (fun D σ H => tb (wClauses K Wo D l) D σ H) ps (.rt P) := fun D σ F H fh S k =>
  hb _ D σ F H fh S fun d u σ' F' H' g hn hd dp hl => catch_ok hc k g hn hd dp hl
end
end EB

/-! EB6: loops that search, truth of a sequence, membership, slices, more sources. -/
namespace EB
open PySem PySem.Spec PyProof.Rows L2 Evl
/-- a turn that leaves the loop: returns, or raises -/
def Out.lv : Out → Res
  | .ok P => .rt P
  | .er e => .er e
def ends (ps : Kn) : Option Out → Res
  | none => .nx ps
  | some o => o.lv
section
variable {K : PySem.W.Frag} {M : EC → Addr} {W : WX} {ps qs : Kn} {te ta tb : TE} {tr : TA} {t : TT} {ts tu : TS} {r : Res} {vs : List Nat}
theorem lv_or (o : Out) : (∃ P, o.lv = .rt P) ∨ ∃ e, o.lv = .er e := by
  cases o with
  | ok P => exact .inl ⟨P, rfl⟩
  | er e => exact .inr ⟨e, rfl⟩
theorem range_first {β : Type} {c : Nat → Option β} {n : Nat} {o : β} (h : (List.range n).findSome? c = some o) : ∃ m, m < n ∧ c m = some o ∧ ∀ i, i < m → c i = none := by
  induction n with
  | zero => simp at h
  | succ n ih =>
    rw [List.range_succ, List.findSome?_append] at h
    cases q : (List.range n).findSome? c with
    | some o2 =>
      rw [q] at h
      have e : o2 = o := by simpa using h
      subst e
      obtain ⟨m, h1, h2, h3⟩ := ih q
      exact ⟨m, by omega, h2, h3⟩
    | none =>
      rw [q] at h
      have e : c n = some o := by simpa using h
      refine ⟨n, by omega, e, fun i hi => ?_⟩
      have := List.findSome?_eq_none_iff.mp q i (List.mem_range.mpr hi)
      exact this
/-- a loop that is left at the first turn i where c i tells how -/
theorem js_search {wi : TI} {g : TG} {ds : List PyData} {tb : TS} (c : Nat → Option Out) (hi : JI K M W wi ps ds)
    (hs : ∀ i d, ds[i]? = some d → ∃ qs, JG vs g ps (dv K d) qs ∧ (JS K M W tb qs (ends ps (c i)) ∨ (c i = none ∧ JS K M W tb qs (.ct ps)))) : JS K M W (tFor wi g tb) ps (ends ps ((List.range ds.length).findSome? c)) := by
  cases q : (List.range ds.length).findSome? c with
  | none =>
    have hn : ∀ i, i < ds.length → c i = none := fun i h => List.findSome?_eq_none_iff.mp q i (List.mem_range.mpr h)
    refine js_for (vs := vs) (fun _ => ps) ds.length hi rfl (Nat.le_refl _) (fun i d h hd => ?_) (.inl ⟨rfl, rfl⟩) (fun _ => rfl)
    obtain ⟨qs, hg, hb⟩ := hs i d hd
    refine ⟨qs, hg, ?_⟩
    rw [hn i h] at hb
    rcases hb with hb | ⟨_, hb⟩
    · exact .inl hb
    · exact .inr hb
  | some o =>
    obtain ⟨m, hm, hc, hn⟩ := range_first q
    refine js_for (vs := vs) (fun _ => ps) m hi rfl (Nat.le_of_lt hm) (fun i d h hd => ?_) (.inr ?_) (fun _ => rfl)
    · obtain ⟨qs, hg, hb⟩ := hs i d hd
      refine ⟨qs, hg, ?_⟩
      rw [hn i h] at hb
      rcases hb with hb | ⟨_, hb⟩
      · exact .inl hb
      · exact .inr hb
    · obtain ⟨qs, hg, hb⟩ := hs m _ (List.getElem?_eq_getElem hm)
      rw [hc] at hb
      rcases hb with hb | ⟨z, _⟩
      · exact ⟨_, qs, List.getElem?_eq_getElem hm, hg, hb, lv_or o⟩
      · cases z
/-- the truth of a sequence -/
theorem jt_truT {ds : List PyData} (h : JD K M W te ps (.tuple ds)) : JT K M W (fun σ H Q => te σ H fun x H' => ∃ k, TruV K x H' k ∧ Q k H') ps (!ds.isEmpty) := fun σ F H Q fh S k => h.go fh S fun v F1 H1 e p => by
  obtain ⟨a, xs, rfl, hs, hd⟩ := dp_tup p
  refine ⟨!ds.isEmpty, .inr (.inl ⟨xs, ex_t e.fh hs, ?_⟩), k F1 H1 e⟩
  cases hd <;> rfl
theorem jt_truL {ds : List PyData} (h : JD K M W te ps (.list ds)) : JT K M W (fun σ H Q => te σ H fun x H' => ∃ k, TruV K x H' k ∧ Q k H') ps (!ds.isEmpty) := fun σ F H Q fh S k => h.go fh S fun v F1 H1 e p => by
  obtain ⟨a, xs, rfl, hs, hd⟩ := dp_lst p
  refine ⟨!ds.isEmpty, .inl ⟨xs, ex_l e.fh hs, ?_⟩, k F1 H1 e⟩
  cases hd <;> rfl
/-- x in ns -/
theorem inV_ints (i : Int) : ∀ ns : List Int, inV (.int i) (ns.map V.int) = ns.contains i
  | [] => rfl
  | n :: r => by
    unfold inV
    rw [List.map_cons, List.any_cons, List.contains_cons]
    have := inV_ints i r
    unfold inV at this
    rw [this]
    congr 1
    show eqV (.int n) (.int i) = (i == n)
    unfold eqV
    exact BEq.comm
theorem flat_ints : ∀ ns : List Int, (ns.map V.int).all flatV = true
  | [] => rfl
  | n :: r => by
    rw [List.map_cons, List.all_cons, flat_ints r]
    rfl
theorem je_inT {i : Int} {ns : List Int} (ha : JD K M W ta ps (.int i)) (hb : JD K M W tb ps (.tuple (ns.map .int))) : JD K M W (tOp (rIn K false) ta tb) ps (.bool (ns.contains i)) := je_op ha hb fun x y F H fh p q Q k => by
  obtain ⟨a, xs, rfl, hs, hd⟩ := dp_tup q
  have e := dpAll_ints_eq hd
  subst e
  rw [dp_int p]
  refine ⟨a, _, rfl, .inr (ex_t fh hs), rfl, flat_ints ns, ?_⟩
  rw [inV_ints]
  exact k _ F H (Gr.refl fh) (.bl _)
theorem je_inL {i : Int} {ns : List Int} (ha : JD K M W ta ps (.int i)) (hb : JD K M W tb ps (.list (ns.map .int))) : JD K M W (tOp (rIn K false) ta tb) ps (.bool (ns.contains i)) := je_op ha hb fun x y F H fh p q Q k => by
  obtain ⟨a, xs, rfl, hs, hd⟩ := dp_lst q
  have e := dpAll_ints_eq hd
  subst e
  rw [dp_int p]
  refine ⟨a, _, rfl, .inl (ex_l fh hs), rfl, flat_ints ns, ?_⟩
  rw [inV_ints]
  exact k _ F H (Gr.refl fh) (.bl _)
/-- t[:k], not the whole; xs[:k] -/
def JO (K : PySem.W.Frag) (M : EC → Addr) (W : WX) (to : TO) (ps : Kn) (o : Option Int) : Prop := ∀ σ F H (Q : Option Int → Hp → Prop), Ex F H → Sl F σ ps → (∀ F' H', Gr F H F' H' → Q o H') → to σ H Q
theorem jo_none : JO K M W tNoPart ps none := fun σ F H Q fh S k => k F H (Gr.refl fh)
theorem jo_some {i : Int} (h : JD K M W te ps (.int i)) : JO K M W (tPart te) ps (some i) := fun σ F H Q fh S k => h.go fh S fun v F1 H1 e p => ⟨i, dp_int p, k F1 H1 e⟩
def cutD (ds : List PyData) (lo hi : Option Int) : List PyData := (ds.drop (HT.sIx ds.length 0 lo)).take (HT.sIx ds.length ds.length hi - HT.sIx ds.length 0 lo)
theorem cut_all {F : Hp} {xs : List V} {ds : List PyData} (h : DpAll K F xs ds) (lo hi : Option Int) : DpAll K F (cutV xs lo hi) (cutD ds lo hi) := by
  unfold cutV cutD
  rw [dpLength h]
  exact dpTake _ (dpDrop _ h)
theorem je_slT {ds : List PyData} {tl th : TO} {lo hi : Option Int} (h : JD K M W te ps (.tuple ds)) (h1 : JO K M W tl ps lo) (h2 : JO K M W th ps hi) (hw : ¬ (HT.sIx ds.length 0 lo = 0 ∧ HT.sIx ds.length ds.length hi = ds.length)) : JD K M W (tSl (rSlT K) te tl th) ps (.tuple (cutD ds lo hi)) := fun σ F H Q fh S k =>
  h.go fh S fun v F1 H1 e p => h1 σ F1 H1 _ e.fh (S.mono e.ff) fun F2 H2 e2 => h2 σ F2 H2 _ e2.fh ((S.mono e.ff).mono e2.ff) fun F3 H3 e3 => by
    obtain ⟨a, xs, rfl, hs, hd⟩ := dp_tup (dp_mono (e2.ff.trans e3.ff) p)
    refine ⟨a, xs, rfl, ex_t e3.fh hs, by rw [dpLength hd]; exact hw, fun p hp => k _ _ _ (((e.trans e2).trans e3).trans (Gr.new e3.fh hp)) (.tup (st_of upd_same) (dpAll_mono (Gr.new (o := .tup (cutV xs lo hi)) e3.fh hp).ff (cut_all hd lo hi)))⟩
theorem je_slL {ds : List PyData} {tl th : TO} {lo hi : Option Int} (h : JD K M W te ps (.list ds)) (h1 : JO K M W tl ps lo) (h2 : JO K M W th ps hi) : JD K M W (tSl (rSlL K) te tl th) ps (.list (cutD ds lo hi)) := fun σ F H Q fh S k =>
  h.go fh S fun v F1 H1 e p => h1 σ F1 H1 _ e.fh (S.mono e.ff) fun F2 H2 e2 => h2 σ F2 H2 _ e2.fh ((S.mono e.ff).mono e2.ff) fun F3 H3 e3 => by
    obtain ⟨a, xs, rfl, hs, hd⟩ := dp_lst (dp_mono (e2.ff.trans e3.ff) p)
    exact ⟨a, xs, rfl, ex_l e3.fh hs, fun p hp => k _ _ _ (((e.trans e2).trans e3).trans (Gr.new e3.fh hp)) (.lst (sq_of upd_same) (dpAll_mono (Gr.new (o := .lst (cutV xs lo hi)) e3.fh hp).ff (cut_all hd lo hi)))⟩
theorem cutD_map {α : Type} (f : α → PyData) (xs : List α) (j : Nat) : cutD (xs.map f) none (some (j : Int)) = (xs.take j).map f := by
  unfold cutD
  rw [HT.sIx_none, HT.sIx_nat, List.drop_zero, Nat.sub_zero, List.length_map, ← List.map_take]
  congr 1
  by_cases h : j ≤ xs.length
  · rw [Nat.min_eq_left h]
  · rw [Nat.min_eq_right (by omega), List.take_length, List.take_of_length_le (by omega)]
/-- t + u -/
theorem je_catT {ds es : List PyData} (ha : JD K M W ta ps (.tuple ds)) (hb : JD K M W tb ps (.tuple es)) (h1 : ds ≠ []) (h2 : es ≠ []) (hl : ds.length + es.length ≤ 100000) : JD K M W (tOp (rCatT K) ta tb) ps (.tuple (ds ++ es)) := je_op ha hb fun x y F H fh p q Q k => by
  obtain ⟨a, xs, rfl, hs, hd⟩ := dp_tup p
  obtain ⟨b, ys, rfl, hs2, hd2⟩ := dp_tup q
  have n1 : xs ≠ [] := fun z => by subst z; cases hd; exact h1 rfl
  have n2 : ys ≠ [] := fun z => by subst z; cases hd2; exact h2 rfl
  refine ⟨a, b, xs, ys, rfl, rfl, ex_t fh hs, ex_t fh hs2, n1, sz_of (by rw [dpLength hd, dpLength hd2]; exact hl), fun z => absurd z n2, fun _ p hp => k _ _ _ (Gr.new fh hp) (.tup (st_of upd_same) (dpApp (dpAll_mono (Gr.new (o := .tup (xs ++ ys)) fh hp).ff hd) (dpAll_mono (Gr.new (o := .tup (xs ++ ys)) fh hp).ff hd2)))⟩
/-- tuple(range(a, b)) -/
theorem rg_all {F : Hp} (a b : Int) : DpAll K F (rgV a b) ((rg a (b - a).toNat).map PyData.int) := by
  have e : rgV a b = (rg a (b - a).toNat).map V.int := by
    unfold rgV rg
    rw [List.map_map]
    rfl
  rw [e]
  exact dpAll_ints _
theorem je_tupRg2 {a b : Int} (ha : JD K M W ta ps (.int a)) (hb : JD K M W tb ps (.int b)) (ok : RgOk a b) : JD K M W (tTupRg (tRg2 ta tb)) ps (.tuple ((rg a (b - a).toNat).map .int)) := fun σ F H Q fh S k =>
  ha.go fh S fun x F1 H1 e1 p => hb.go e1.fh (S.mono e1.ff) fun y F2 H2 e2 q => ⟨a, b, dp_int p, dp_int q, ok, fun l hl => k _ _ _ ((e1.trans e2).trans (Gr.new e2.fh hl)) (.tup (st_of upd_same) (rg_all a b))⟩
end
end EB

/-! EB7: the end of a law's row where the top's loose numbers are told too. -/
namespace EB
open PySem PySem.Spec PyProof.Rows L2 Evl
theorem walk_ofX {l : PySem.W.OpenLaw} {n k : Nat} {q : Program} {loose : List Str} {XP : (Str → Option Value) → Heap → Prop} {YP : World → Heap → Prop} {d : DefRec} {K : Params → PySem.W.Frag} {CX : CXT} {sp : PySem.W.Frag → Sp} {x : Str}
    (hn : l.most = some n) (hn2 : n ≤ sizeLine) (hdf : d.params.defaults = []) (hr : Room k callerA)
    (hY : ∀ (w : World) (h : Heap), YP w h → (K w.params).In h)
    (F : ∀ (w : World) (mg : Str → Option Value) (fa : Addr) (h : Heap), (K w.params).In h → h.Ns mainGlobals mg → XP mg h → mg d.name = some (.ref fa) →
      ∃ fd : FuncData, (∀ (s : Shared) (u : Value), BindsTo s fd ⟨[u], []⟩ [(x, u)]) ∧
        ∀ base : Heap, (K w.params).In base → base.Ns mainGlobals mg → FnOk l.prog w (K w.params) mg base CX k fa fd [x] (sp (K w.params)))
    (hsp : ∀ (K : PySem.W.Frag) (H : Hp) (a : Addr) (ns : List Int), ns.length ≤ n → Only H → SqL K H a (ns.map V.int) → sp K [.ref a] H (fun v _ => v = .bl true) fun _ _ _ => False)
    (hCX : ∀ (H : Hp) (s : Shared) (e : Value) (t : Shared), CX [] H s (fun _ _ _ => False) e t → False) :
    PySem.W.WalkO q loose XP YP l.row.toRowW d [] (fun f vs => PySem.call f vs) := by
  refine Att.attach_call hn hdf fun w t0 t1 mg mb fa o pm cd doc a vs ns G Y ho hd hcd hmg hobj hints hlen hg => ?_
  have KX := hY w _ Y
  obtain ⟨fd, hb, hF⟩ := F w mg fa _ KX G.T.g G.X hmg
  exact law_call KX G.T.g G.T.b G.T.builtins G.T.nolimit hg hobj hints (Nat.le_trans hlen hn2) hr hF hb (fun H hO hS => hsp (K w.params) H a ns hlen hO hS) fun H e t => hCX H t1 e t
theorem loose_int {p : Program} {lv : List (Str × PySem.W.WData)} {mg : Str → Option Value} {h : Heap} {x : Str} {i : Int} (L : PySem.W.XL p lv mg h) (m : (x, PySem.W.WData.int i) ∈ lv) : ∃ t, mg x = some (.int i t) := by
  obtain ⟨v, e, r⟩ := L.2.val _ m
  cases r
  exact ⟨_, e⟩
section
variable {K : PySem.W.Frag} {A C : Addr} {b : Bool}
theorem kit_refl : PySem.W.kitOne K (.ref C) (.ref C) = some true := if_pos (beq_self_eq_true _)
theorem cls_ask (ic : PySem.W.isClsIn K C = true) (ty : PySem.W.typeIn K (.ref C) = some (.type "type")) : ((PySem.W.clsIn K C).isSome && PySem.W.typeIn K (.ref C) == some (.type "type")) = true := by
  have i2 : (PySem.W.clsIn K C).isSome = true := ic
  rw [i2, ty] <;> rfl
theorem kit_sub (ic : PySem.W.isClsIn K C = true) (ty : PySem.W.typeIn K (.ref C) = some (.type "type")) (su : PySem.W.subIn K (.ref A) (.ref C) = some b) (hb : A = C → b = true) : PySem.W.kitOne K (.ref A) (.ref C) = some b := by
  by_cases z : A = C
  · rw [hb z, z]
    exact kit_refl
  · unfold PySem.W.kitOne
    have ne : (Value.ref A == Value.ref C) = false := by
      refine Bool.eq_false_iff.mpr fun q => z ?_
      exact Value.ref.inj (beq_iff_eq.mp q)
    rw [ne, if_neg Bool.false_ne_true]
    show (if ((PySem.W.clsIn K C).isSome && PySem.W.typeIn K (.ref C) == some (.type "type")) = true then PySem.W.subIn K (.ref A) (.ref C) else none) = some b
    rw [if_pos (cls_ask ic ty)]
    exact su
theorem kit_off (ic : PySem.W.isClsIn K C = true) (ty : PySem.W.typeIn K (.ref C) = some (.type "type")) (sa : PySem.W.subIn K (.ref A) (.ref A) = some true) (su : PySem.W.subIn K (.ref A) (.ref C) = some false) : PySem.W.kitOne K (.ref A) (.ref C) = some false := kit_sub ic ty su fun z => by
  rw [← z, sa] at su
  cases su
theorem kit_val (su : PySem.W.subIn K (.ref A) (.type "ValueError") = some true) : PySem.W.kitOne K (.ref A) (.type "ValueError") = some true := by
  unfold PySem.W.kitOne
  have ne : (Value.ref A == Value.type "ValueError") = false := Bool.eq_false_iff.mpr fun q => by
    have := beq_iff_eq.mp q
    cases this
  rw [ne, if_neg Bool.false_ne_true]
  show (if PySem.W.kitMeta "ValueError" = true then PySem.W.subIn K (.ref A) (.type "ValueError") else none) = some true
  rw [if_pos (by decide +kernel)]
  exact su
theorem kit_any2 {C1 C2 : Addr} (h1 : PySem.W.kitOne K (.ref A) (.ref C1) = some false) (h2 : PySem.W.kitOne K (.ref A) (.ref C2) = some false) : PySem.W.kitAny K (.ref A) [.ref C1, .ref C2] = some false := kitAny_cons h1 (fun _ => kitAny_cons h2 (fun _ => kitAny_nil) fun z => nomatch z) fun z => nomatch z
theorem exm_sub (sb : PySem.W.subIn K (.ref C) (.type "BaseException") = some true) (ic : PySem.W.isClsIn K C = true) (ty : PySem.W.typeIn K (.ref C) = some (.type "type")) (su : PySem.W.subIn K (.ref A) (.ref C) = some b) : PySem.W.exmOne K (.ref A) (.ref C) = some b := by
  have e1 : (PySem.W.subIn K (.ref C) (.type "BaseException") == some true) = true := by rw [sb] <;> rfl
  show (if (PySem.W.subIn K (.ref C) (.type "BaseException") == some true) = true then (if ((PySem.W.clsIn K C).isSome && PySem.W.typeIn K (.ref C) == some (.type "type")) = true then PySem.W.subIn K (.ref A) (.ref C) else none) else none) = some b
  rw [if_pos e1, if_pos (cls_ask ic ty)]
  exact su
end
end EB

/-! EB8: data that may be compared. -/
namespace EB
open PySem PySem.Spec PyProof.Rows L2 Evl
structure Ok (d : PyData) (n : Nat) : Prop where
  c : PyData.canLay0 d = true
  d : PyData.depth d ≤ n
theorem ok_all {n : Nat} : ∀ {ds : List PyData}, (∀ d ∈ ds, Ok d n) → PyData.canLayAll0 ds = true ∧ PyData.depthAll ds ≤ n
  | [], _ => by simp [PyData.canLayAll0, PyData.depthAll]
  | d :: r, h => by
    have h1 := h d (List.mem_cons_self)
    have h2 := ok_all (n := n) (ds := r) fun e he => h e (List.mem_cons_of_mem _ he)
    simp only [PyData.canLayAll0, PyData.depthAll, Bool.and_eq_true]
    exact ⟨⟨h1.c, h2.1⟩, Nat.max_le.mpr ⟨h1.d, h2.2⟩⟩
theorem ok_tup {n : Nat} {ds : List PyData} (h : ∀ d ∈ ds, Ok d n) : Ok (.tuple ds) (n + 1) := by
  have h2 := ok_all h
  refine ⟨by simp only [PyData.canLay0]; exact h2.1, ?_⟩
  simp only [PyData.depth]
  omega
theorem ok_lst {n : Nat} {ds : List PyData} (h : ∀ d ∈ ds, Ok d n) : Ok (.list ds) (n + 1) := by
  have h2 := ok_all h
  refine ⟨by simp only [PyData.canLay0]; exact h2.1, ?_⟩
  simp only [PyData.depth]
  omega
theorem ok_int {n : Nat} {i : Int} : Ok (.int i) n := ⟨by simp only [PyData.canLay0], by simp only [PyData.depth]; omega⟩
theorem ok_bl {n : Nat} {b : Bool} : Ok (.bool b) n := ⟨by simp only [PyData.canLay0], by simp only [PyData.depth]; omega⟩
theorem ok_str {n : Nat} {x : Str} (h : PyData.strOk x = true) : Ok (.str x) n := ⟨by simp only [PyData.canLay0]; exact h, by simp only [PyData.depth]; omega⟩
theorem Ok.up {d : PyData} {n m : Nat} (h : Ok d n) (q : n ≤ m) : Ok d m := ⟨h.c, Nat.le_trans h.d q⟩
theorem Ok.sh {d : PyData} {n : Nat} (h : Ok d n) (hn : n ≤ 64) : SeqAt.shaped d = true := by
  unfold SeqAt.shaped
  rw [h.c, Bool.true_and]
  exact decide_eq_true (Nat.le_trans h.d hn)
theorem ok_ints {n : Nat} (xs : List Int) : ∀ d ∈ xs.map PyData.int, Ok d n := fun d hd => by
  obtain ⟨i, _, rfl⟩ := List.mem_map.mp hd
  exact ok_int
section
variable {K : PySem.W.Frag} {M : EC → Addr} {W : WX} {ps : Kn} {ta tb : TE}
/-- the same data on both sides -/
theorem je_eqR {d : PyData} {n : Nat} (ha : JD K M W ta ps d) (hb : JD K M W tb ps d) (o : Ok d n) (hn : n ≤ 64 := by decide) : JD K M W (tOp (rEqD K) ta tb) ps (.bool true) := je_is (je_eqD ha hb (o.sh hn) (o.sh hn)) (by rw [SeqAt.eqv_refl d o.c])
theorem je_neR {d : PyData} {n : Nat} (ha : JD K M W ta ps d) (hb : JD K M W tb ps d) (o : Ok d n) (hn : n ≤ 64 := by decide) : JD K M W (tOp (rNeD K) ta tb) ps (.bool false) := je_is (je_neD ha hb (o.sh hn) (o.sh hn)) (by rw [SeqAt.eqv_refl d o.c]; rfl)
end
end EB

/-! EB9: a list of one's own that is written to (appended to, items set), then handed on as data. -/
namespace EB
open PySem PySem.Spec PyProof.Rows L2 Evl
theorem dpSet {K : PySem.W.Frag} {H : Hp} : ∀ {vs : List V} {ds : List PyData} {j : Nat} {v : V} {d : PyData}, DpAll K H vs ds → Dp K H v d → DpAll K H (vs.set j v) (ds.set j d)
  | _, _, _, _, _, .nil, _ => .nil
  | _, _, 0, _, _, .cons a b, p => .cons p b
  | _, _, j + 1, _, _, .cons a b, p => .cons a (dpSet b p)
inductive LR
  | nx (qs : Kn) (ds : List PyData)
  | rt (d : PyData)
def LW (K : PySem.W.Frag) (D : Addr) (F1 H1 : Hp) (Dn : Ends) (F : Hp) : LR → Prop
  | .nx qs es => ∀ σ' F' H', Acc K D F1 H1 F' H' es → Ex F F' → Sl F' σ' qs → Dn.nx σ' H'
  | .rt d => ∀ v F' H', Gr F1 H1 F' H' → Dp K F' v d → Dn.rt v H'
theorem LW.step {K : PySem.W.Frag} {D : Addr} {F1 H1 : Hp} {Dn : Ends} {F F' : Hp} {R : LR} (e : Ex F F') (k : LW K D F1 H1 Dn F R) : LW K D F1 H1 Dn F' R := by
  cases R with
  | nx qs es => exact fun σ2 F2 H2 A2 e2 S2 => k σ2 F2 H2 A2 (e.trans e2) S2
  | rt d => exact k
def JL (K : PySem.W.Frag) (M : EC → Addr) (W : WX) (D : Addr) (F1 H1 : Hp) (ts : TS) (ps : Kn) (ds : List PyData) (R : LR) : Prop := ∀ Dn σ F H, Acc K D F1 H1 F H ds → Sl F σ ps → LW K D F1 H1 Dn F R → ts Dn σ H
section
variable {K : PySem.W.Frag} {M : EC → Addr} {W : WX} {D : Addr} {F1 H1 : Hp} {ps qs rs : Kn} {ts tu : TS} {te ti : TE} {ds es : List PyData} {R : LR} {t : TT}
theorem jl_js (h : JS K M W ts ps (.nx qs)) : JL K M W D F1 H1 ts ps ds (.nx qs ds) := fun Dn σ F H A S k => h Dn σ F H A.gr.fh S fun σ' F' H' g s => k σ' F' H' (A.step g) g.ff s
theorem jl_weak (h : JL K M W D F1 H1 ts ps ds (.nx qs es)) (w : Weak qs rs) : JL K M W D F1 H1 ts ps ds (.nx rs es) := fun Dn σ F H A S k => h Dn σ F H A S fun σ' F' H' A' e s => k σ' F' H' A' e (s.weak w)
theorem jl_is {es' : List PyData} (h : JL K M W D F1 H1 ts ps ds (.nx qs es)) (e : es = es') : JL K M W D F1 H1 ts ps ds (.nx qs es') := e ▸ h
theorem jl_seq (h1 : JL K M W D F1 H1 ts ps ds (.nx qs es)) (h2 : JL K M W D F1 H1 tu qs es R) : JL K M W D F1 H1 (tSeq ts tu) ps ds R := fun Dn σ F H A S k => h1 { Dn with nx := tu Dn } σ F H A S fun σ' F' H' A' e S' => h2 Dn σ' F' H' A' S' (LW.step e k)
theorem jl_if {b : Bool} (h : JT K M W t ps b) (h1 : b = true → JL K M W D F1 H1 ts ps ds R) (h2 : b = false → JL K M W D F1 H1 tu ps ds R) : JL K M W D F1 H1 (tIfS t ts tu) ps ds R := fun Dn σ F H A S k => h σ F H _ A.gr.fh S fun F' H' g => by
  have k' := LW.step g.ff k
  cases b with
  | true => exact h1 rfl Dn σ F' H' (A.step g) (S.mono g.ff) k'
  | false => exact h2 rfl Dn σ F' H' (A.step g) (S.mono g.ff) k'
theorem sl_at {F : Hp} {σ : L2.St} {i : Nat} {v : V} (S : Sl F σ ps) (h : ps[i]? = some (some (xv v))) : σ[i]? = some (some v) := by
  obtain ⟨u, hu, e⟩ := S.2 i _ h
  rw [hu, show u = v from e]
/-- xs.append(e) -/
theorem jl_app {i : Nat} {ta : TA} {d : PyData} (hi : ps[i]? = some (some (xv (.ref D)))) (hD : H1 D = none) (h : JA K M W ta ps [dv K d]) (hl : ds.length < 90000) : JL K M W D F1 H1 (tDrop (tBM K "list" rAppend (tVar i) ta)) ps ds (.nx ps (ds ++ [d])) := fun Dn σ F H A S k => by
  obtain ⟨acc0, h0, _⟩ := A.at_
  refine ⟨.ref D, sl_at S hi, (.inl ⟨rfl, acc0, sq_of h0⟩), h σ F H _ A.gr.fh S fun vs F2 H2 g a => ?_⟩
  obtain ⟨v, rfl, p⟩ := allP1 a
  have A2 := A.step g
  obtain ⟨acc, h2, hd⟩ := A2.at_
  exact ⟨D, acc, v, rfl, rfl, h2, sz_lt (by rw [A2.len h2]; omega), k σ F2 _ (A2.app hD h2 p) g.ff (S.mono g.ff)⟩
theorem ixN_nat {n j : Nat} (h : j < n) : ixN n (j : Int) = some j := by
  unfold ixN
  rw [if_pos (by omega), if_pos (by omega)]
  simp
theorem acc_set {F H : Hp} {acc : List V} {j : Nat} {v : V} {d : PyData} (A : Acc K D F1 H1 F H ds) (hD : H1 D = none) (h : H D = some (.lst acc)) (p : Dp K F v d) : Acc K D F1 H1 F (upd H D (.lst (acc.set j v))) (ds.set j d) := by
  obtain ⟨acc2, h2, hd⟩ := A.at_
  rw [h] at h2
  cases h2
  exact ⟨gr_mut A.gr hD A.off, A.off, _, upd_same, dpSet hd p⟩
/-- xs[k] = e -/
theorem jl_set {i j : Nat} {d : PyData} (hi : ps[i]? = some (some (xv (.ref D)))) (hD : H1 D = none) (h : JD K M W te ps d) (hk : JD K M W ti ps (.int (j : Nat))) (hj : j < ds.length) : JL K M W D F1 H1 (tAsg te (gSub (tVar i) ti rSetL)) ps ds (.nx ps (ds.set j d)) := fun Dn σ F H A S k =>
  h.go A.gr.fh S fun v F2 H2 g p => by
    refine ⟨.ref D, sl_at S hi, hk.go g.fh (S.mono g.ff) fun u F3 H3 g3 q => ?_⟩
    have A3 := (A.step g).step g3
    obtain ⟨acc, h3, hd⟩ := A3.at_
    exact ⟨D, acc, (j : Nat), j, rfl, dp_int q, h3, by rw [A3.len h3]; exact ixN_nat hj, k σ F3 _ (acc_set A3 hD h3 (dp_mono g3.ff p)) (g.ff.trans g3.ff) ((S.mono g.ff).mono g3.ff)⟩
/-- xs[k] = e where e is an int that may be read off xs itself -/
theorem jl_setI {i j : Nat} {v : Int} (hi : ps[i]? = some (some (xv (.ref D)))) (hD : H1 D = none) (h : JD K M W te (ps.set i (some (dv K (.list ds)))) (.int v)) (hk : JD K M W ti ps (.int (j : Nat))) (hj : j < ds.length) : JL K M W D F1 H1 (tAsg te (gSub (tVar i) ti rSetL)) ps ds (.nx ps (ds.set j (.int v))) := fun Dn σ F H A S k => by
  obtain ⟨acc0, h0, hd0⟩ := A.at_
  have fo : Ex F (upd F D (.lst acc0)) := Ex.new A.off
  have fh : Ex (upd F D (.lst acc0)) H := fun b o q => by
    by_cases z : b = D
    · subst z
      rw [upd_same] at q
      cases q
      exact h0
    · rw [upd_ne z] at q
      exact A.gr.fh b o q
  have S2 : Sl (upd F D (.lst acc0)) σ (ps.set i (some (dv K (.list ds)))) := by
    refine ⟨by rw [List.length_set]; exact S.1, fun b P hb => ?_⟩
    by_cases z : b = i
    · subst z
      have hl : b < ps.length := (List.getElem?_eq_some_iff.mp hi).1
      rw [List.getElem?_set_self hl] at hb
      cases hb
      exact ⟨_, sl_at S hi, .lst (sq_of upd_same) (dpAll_mono fo hd0)⟩
    · rw [List.getElem?_set_ne (fun y => z y.symm)] at hb
      exact (S.mono fo).2 b P hb
  refine h.go fh S2 fun x F2 H2 g p => ?_
  rw [dp_int p]
  have A2 : Acc K D F1 H1 F H2 ds := ⟨⟨A.gr.ff, A.gr.hh.trans g.hh, A.gr.fh.trans g.hh, A.gr.nw⟩, A.off, acc0, g.hh _ _ h0, hd0⟩
  refine ⟨.ref D, sl_at S hi, hk.go A2.gr.fh S fun u F3 H3 g3 q => ?_⟩
  have A3 := A2.step g3
  obtain ⟨acc, h3, hd⟩ := A3.at_
  exact ⟨D, acc, (j : Nat), j, rfl, dp_int q, h3, by rw [A3.len h3]; exact ixN_nat hj, k σ F3 _ (acc_set A3 hD h3 (.int v)) g3.ff (S.mono g3.ff)⟩
/-- for, the list grows or changes in every turn -/
theorem jl_for {vs : List Nat} {wi : TI} {g : TG} {tb : TS} (xs : List PyData) (f : Nat → Kn) (l : Nat → List PyData) (hi : JI K M W wi ps xs) (h0 : f 0 = ps) (hl0 : l 0 = ds)
    (hs : ∀ (j : Nat) (d : PyData), xs[j]? = some d → ∃ qs, JG vs g (f j) (dv K d) qs ∧ JL K M W D F1 H1 tb qs (l j) (.nx (f (j + 1)) (l (j + 1)))) : JL K M W D F1 H1 (tFor wi g tb) ps ds (.nx (f xs.length) (l xs.length)) := fun Dn σ F H A S k => hi σ F H _ A.gr.fh S fun J F2 H2 e1 it => by
  refine ⟨fun i n σ' H' => n = xs.length - i ∧ i ≤ xs.length ∧ ∃ F', Acc K D F1 H1 F' H' (l i) ∧ Ex F2 F' ∧ Sl F' σ' (f i), ⟨xs.length, by omega, Nat.zero_le _, F2, by rw [hl0]; exact A.step e1, Ex.refl _, by rw [h0]; exact S.mono e1.ff⟩, ?_⟩
  rintro i n σ' H' ⟨rfl, him, F3, A3, e3, S3⟩
  by_cases hlt : i < xs.length
  · refine .inr ⟨it.go i H' (e3.trans A3.gr.fh) hlt, fun σ4 H4 => ∃ F4, Acc K D F1 H1 F4 H4 (l (i + 1)) ∧ Ex F2 F4 ∧ Sl F4 σ4 (f (i + 1)), fun σ4 H4 q => ⟨xs.length - (i + 1), by omega, rfl, hlt, q⟩, fun x H4 y => ?_⟩
    obtain ⟨F4, e4, dx⟩ := it.yld i _ F3 H' x H4 e3 A3.gr.fh (List.getElem?_eq_getElem hlt) y
    obtain ⟨qs, hg, hb⟩ := hs i _ (List.getElem?_eq_getElem hlt)
    have A4 := A3.step e4
    refine hg x σ' F4 H4 _ e4.fh (S3.mono e4.ff) dx fun σ5 F5 H5 e5 S5 _ => ?_
    exact hb _ σ5 F5 H5 (A4.step e5) S5 fun σ6 F6 H6 A6 e6 S6 => ⟨F6, A6, ((e3.trans e4.ff).trans e5.ff).trans e6, S6⟩
  · have hem : i = xs.length := by omega
    subst hem
    exact .inl ⟨it.stop _ H' (e3.trans A3.gr.fh) (Nat.le_refl _), k σ' F3 H' A3 (e1.ff.trans e3) S3⟩
theorem jl_ret {i : Nat} (hi : ps[i]? = some (some (xv (.ref D)))) (hD : H1 D = none) : JL K M W D F1 H1 (tRet (tVar i)) ps ds (.rt (.list ds)) := fun Dn σ F H A S k => by
  obtain ⟨F3, g3, d3, _⟩ := A.done hD
  exact ⟨.ref D, sl_at S hi, k _ F3 H g3 d3⟩
/-- xs = [] -/
theorem jl_new {i : Nat} {d : PyData} (h : ∀ D F1 H1, H1 D = none → JL K M W D F1 H1 tu (ps.set i (some (xv (.ref D)))) [] (.rt d)) : JS K M W (tSeq (tAsg (tLst tNil) (gName i)) tu) ps (.rt (dv K d)) := fun Dn σ F H fh S k =>
  ⟨sz_of (by decide), fun D hD => h D F H hD Dn _ F _ (Acc.start fh hD) (S.set i rfl) fun v F' H' g p => k v F' H' g p⟩
/-- xs = list(e), e a list -/
theorem jl_copy {i : Nat} {d : PyData} (he : JD K M W te ps (.list ds)) (h : ∀ D F1 H1, H1 D = none → JL K M W D F1 H1 tu (ps.set i (some (xv (.ref D)))) ds (.rt d)) : JS K M W (tSeq (tAsg (tCB (rListS K) (tCons te tNil)) (gName i)) tu) ps (.rt (dv K d)) := fun Dn σ F H fh S k =>
  he.go fh S fun v F1 H1 e p => by
    obtain ⟨a, xs, rfl, hs, hd⟩ := dp_lst p
    exact ⟨a, xs, rfl, .inl (ex_l e.fh hs), fun D hD => h D F1 H1 hD Dn _ F1 _ ⟨gr_mut (Gr.refl e.fh) hD (fresh_back e.fh hD), fresh_back e.fh hD, xs, upd_same, hd⟩ ((S.mono e.ff).set i rfl) fun v F' H' g p => k v F' H' (e.trans g) p⟩
end
end EB

/-! EB10: max and min, lists that stand in the heap, == by an own __eq__, is True. -/
namespace EB
open PySem PySem.Spec PyProof.Rows L2 Evl
/-- a list that was made at run time -/
def lv (K : PySem.W.Frag) (ds : List PyData) : PV := ⟨fun H v => ∃ a xs, v = .ref a ∧ H a = some (.lst xs) ∧ DpAll K H xs ds, fun e h => by
  obtain ⟨a, xs, h1, h2, h3⟩ := h
  exact ⟨a, xs, h1, e _ _ h2, dpAll_mono e h3⟩⟩
theorem lv_dv {K : PySem.W.Frag} {ds : List PyData} : ∀ (H : Hp) (v : V), (lv K ds).p H v → (dv K (.list ds)).p H v := fun H v h => by
  obtain ⟨a, xs, rfl, h2, h3⟩ := h
  exact .lst (sq_of h2) h3
section
variable {K : PySem.W.Frag} {M : EC → Addr} {W : WX} {ps : Kn} {ta tb te : TE} {tr : TA}
theorem je_lvd {ds : List PyData} (h : JV K M W te ps (lv K ds)) : JD K M W te ps (.list ds) := je_weak h lv_dv
theorem je_lstV {ds : List PyData} (h : JA K M W tr ps (ds.map (dv K))) (hl : ds.length ≤ 100000 := by first | decide | omega | (simp; done)) : JV K M W (tLst tr) ps (lv K ds) := fun σ F H Q fh S k =>
  h σ F H _ fh S fun vs F1 H1 e1 a => ⟨sz_of (by rw [dpLength a.dv]; exact hl), fun p hp => k _ _ _ (e1.trans (Gr.new e1.fh hp)) ⟨p, vs, rfl, upd_same, dpAll_mono (Gr.new (o := .lst vs) e1.fh hp).ff a.dv⟩⟩
theorem je_catV {ds es : List PyData} (ha : JV K M W ta ps (lv K ds)) (hb : JV K M W tb ps (lv K es)) (hl : ds.length + es.length ≤ 100000) : JV K M W (tOp rCat ta tb) ps (lv K (ds ++ es)) := je_op ha hb fun x y F H fh p q Q k => by
  obtain ⟨a, xs, rfl, hx, hd⟩ := p
  obtain ⟨b, ys, rfl, hy, he⟩ := q
  exact ⟨a, b, xs, ys, rfl, rfl, fh _ _ hx, fh _ _ hy, sz_of (by rw [dpLength hd, dpLength he]; exact hl), fun p hp => k _ _ _ (Gr.new fh hp) ⟨p, _, rfl, upd_same, dpApp (dpAll_mono (Gr.new (o := .lst (xs ++ ys)) fh hp).ff hd) (dpAll_mono (Gr.new (o := .lst (xs ++ ys)) fh hp).ff he)⟩⟩
theorem je_maxI {ns : List Int} {m : Int} (h : JD K M W te ps (.list (ns.map .int))) (hm : m ∈ ns) (hx : ∀ y ∈ ns, y ≤ m) : JD K M W (tCB (rMax K) (tCons te tNil)) ps (.int m) := je_cb (ja_cons h ja_nil) fun vs F H fh b Q k => by
  obtain ⟨v, rfl, p⟩ := allP1 b
  obtain ⟨a, xs, rfl, hs, hd⟩ := dp_lst p
  have e := dpAll_ints_eq hd
  subst e
  refine ⟨a, ns, rfl, ex_l fh hs, List.length_pos_of_mem hm, fun m2 h2 h3 => ?_⟩
  rw [show m2 = m from Int.le_antisymm (hx _ h2) (h3 _ hm)]
  exact k _ F H (Gr.refl fh) (.int m)
theorem je_minI {ns : List Int} {m : Int} (h : JD K M W te ps (.list (ns.map .int))) (hm : m ∈ ns) (hx : ∀ y ∈ ns, m ≤ y) : JD K M W (tCB (rMin K) (tCons te tNil)) ps (.int m) := je_cb (ja_cons h ja_nil) fun vs F H fh b Q k => by
  obtain ⟨v, rfl, p⟩ := allP1 b
  obtain ⟨a, xs, rfl, hs, hd⟩ := dp_lst p
  have e := dpAll_ints_eq hd
  subst e
  refine ⟨a, ns, rfl, ex_l fh hs, List.length_pos_of_mem hm, fun m2 h2 h3 => ?_⟩
  rw [show m2 = m from Int.le_antisymm (h3 _ hm) (hx _ h2)]
  exact k _ F H (Gr.refl fh) (.int m)
theorem je_isB {a b : Bool} (ha : JD K M W ta ps (.bool a)) (hb : JD K M W tb ps (.bool b)) : JD K M W (tOp rIsB ta tb) ps (.bool (decide (a = b))) := je_op ha hb fun x y F H fh p q Q k => ⟨a, b, dp_bl p, dp_bl q, k _ F H (Gr.refl fh) (.bl _)⟩
/-- two objects of a class with the same data -/
def eqR (K : PySem.W.Frag) (C : Addr) (f : Str) : Addr → Addr → Hp → Prop := fun a b H => ∃ (F : Hp) (d : PyData), Ex F H ∧ (ob1 K C f d).p F (.ref a) ∧ (ob1 K C f d).p F (.ref b) ∧ Ok d 60
theorem je_eqOwn {C : Addr} {f : Str} {d : PyData} (ha : JV K M W ta ps (ob1 K C f d)) (hb : JV K M W tb ps (ob1 K C f d)) (o : Ok d 60) : JD K M W (tOp (rEqG (DIns C (eqR K C f))) ta tb) ps (.bool true) := je_op ha hb fun x y F H fh p q Q k => by
  obtain ⟨a, dx, u, rfl, h1, h2⟩ := id p
  obtain ⟨b, dy, v, rfl, h3, h4⟩ := id q
  exact ⟨⟨a, b, dx, dy, _, _, rfl, rfl, fh _ _ h1, fh _ _ h3, F, d, fh, p, q, o⟩, fun H' e => k _ F H' (Gr.heap fh e) (.bl true)⟩
/-- a list of one's own is told as data from here on -/
theorem jl_tell {D : Addr} {F1 H1 : Hp} {tu : TS} {i : Nat} {ds : List PyData} {d : PyData} (hi : ps[i]? = some (some (xv (.ref D)))) (hD : H1 D = none) (h : JS K M W tu (ps.set i (some (lv K ds))) (.rt (dv K d))) : JL K M W D F1 H1 tu ps ds (.rt d) := fun Dn σ F H A S k => by
  obtain ⟨acc, h0, hd⟩ := A.at_
  have fo : Ex F (upd F D (.lst acc)) := Ex.new A.off
  have g3 := gr_in A.gr hD A.off h0
  have S2 : Sl (upd F D (.lst acc)) σ (ps.set i (some (lv K ds))) := by
    refine ⟨by rw [List.length_set]; exact S.1, fun b P hb => ?_⟩
    by_cases z : b = i
    · subst z
      have hl : b < ps.length := (List.getElem?_eq_some_iff.mp hi).1
      rw [List.getElem?_set_self hl] at hb
      cases hb
      exact ⟨_, sl_at S hi, D, acc, rfl, upd_same, dpAll_mono fo hd⟩
    · rw [List.getElem?_set_ne (fun y => z y.symm)] at hb
      exact (S.mono fo).2 b P hb
  exact h Dn σ _ H g3.fh S2 fun v F' H' g p => k v F' H' (g3.trans g) p
/-- xs = a + b: a list of one's own from here on -/
theorem jl_cat {tu : TS} {i : Nat} {ds es : List PyData} {d : PyData} (ha : JV K M W ta ps (lv K ds)) (hb : JV K M W tb ps (lv K es)) (hl : ds.length + es.length ≤ 100000) (h : ∀ D F1 H1, H1 D = none → JL K M W D F1 H1 tu (ps.set i (some (xv (.ref D)))) (ds ++ es) (.rt d)) : JS K M W (tSeq (tAsg (tOp rCat ta tb) (gName i)) tu) ps (.rt (dv K d)) := fun Dn σ F H fh S k =>
  ha.go fh S fun v F1 H1 e p => hb.go e.fh (S.mono e.ff) fun u F2 H2 e2 q => by
    obtain ⟨a, xs, rfl, hx, hd⟩ := (lv K ds).mn e2.ff p
    obtain ⟨b, ys, rfl, hy, he⟩ := q
    exact ⟨a, b, xs, ys, rfl, rfl, e2.fh _ _ hx, e2.fh _ _ hy, sz_of (by rw [dpLength hd, dpLength he]; exact hl), fun D hD => h D F2 H2 hD Dn _ F2 _ ⟨gr_mut (Gr.refl e2.fh) hD (fresh_back e2.fh hD), fresh_back e2.fh hD, _, upd_same, dpApp hd he⟩ (((S.mono e.ff).mono e2.ff).set i rfl) fun v F' H' g p => k v F' H' ((e.trans e2).trans g) p⟩
end
end EB

/-! EB11: len by an own __len__, lists that a call has made anew (told by nobody yet), lists times n, turned lists, sums, counts, isinstance of lists. -/
namespace EB
open PySem PySem.Spec PyProof.Rows L2 Evl
section
variable {X : Cx} {CX : CXT} {n : Nat} {C f : Addr} {fd : FuncData} {ps : List Str} {sp : Sp} {E : XK}
/-- the callee runs somewhere below -/
theorem own_run {A1 : Around} {pins : List (Addr × Obj)} {σ : L2.St} {H : Hp} {s : Shared} {Q : VK} {us : List Value} {vs : List V} (sb : Sub X n A1) (F : FnOk X.prog X.w X.K X.mg X.base CX n f fd ps sp) (hb : Binds X.K fd ps []) (hx : Passes CX X E)
    (I : Inv X pins σ H s) (r : Vals vs us) (h : sp vs H Q E) : wpAny (model X.prog X.w) A1 (call (.ref f) us) (EP X pins σ Q) X.xe s := by
  have e0 : Env0 X.prog X.w X.K X.mg X.base A1 X.stack s H := by
    have e := I.env0
    exact ⟨by rw [sb.fr]; exact e.frames, e.mod, e.bs, e.bsz, e.funs, e.frf, e.hok, e.bare⟩
  have hl : us.length = ps.length := by rw [← r.length]; exact F.len _ _ _ _ h
  have b := hb s us I.kIn (by rw [List.append_nil]; exact hl)
  rw [List.append_nil] at b
  refine wpAny_call (codeAny_mono (F.run A1 X.stack s H ⟨us, []⟩ us vs Q E sb.room e0 b r h) fun r s' hq => ?_)
  cases r with
  | error e => exact hx pins σ H s e s' I hq
  | ok fl =>
    cases fl with
    | ret u => exact I.after hq
    | next => exact False.elim hq
    | brk => exact False.elim hq
    | cont => exact False.elim hq
theorem passF : Passes (L2.CX X.prog X.w) X (fun _ _ _ => False) := fun pins σ H s e s' I c => by
  obtain ⟨_, _, _, _, _, _, _, _, _, _, _, _, h⟩ := c
  exact h.elim
/-- len(o), o an instance of C with an own __len__ -/
def rLenO (C : Addr) (sp : Sp) (E : XK) : List V → Hp → VK → Prop := fun xs H Q => ∃ a dx fs, xs = [V.ref a] ∧ H a = some (.ins C dx fs) ∧ sp [.ref a] H (fun v H' => ∃ i : Int, v = .int i ∧ 0 ≤ i ∧ i < 2 ^ 63 ∧ Q (.int i) H') E
theorem call_lenOwn (F : FnOk X.prog X.w X.K X.mg X.base CX n f fd ps sp) (hr : Room (n + 1) X.A) (hs : PySem.W.findIn X.K (.ref C) "__len__" = some (some (.ref f))) (hf : PySem.W.isFn X.K (.ref f) = true) (hb : Binds X.K fd ps []) (hx : Passes CX X E) : CallR X (.builtin "len") (rLenO C sp E) := by
  intro pins s σ H xs us Q I r h
  obtain ⟨a, dx, fs, rfl, ha, hsp⟩ := h
  obtain ⟨u, rfl, rx⟩ := vals1 r
  cases rx
  obtain ⟨mA, J, _⟩ := ins_get I.hok ha
  obtain ⟨od, J, _⟩ := J.look
  obtain ⟨m, hF⟩ := I.fr
  refine PySem.W.len_K hF I.ok.mod.kin J hs hf (thn (own_run (A1 := X.A.in1) (Sub.in1 ⟨hr, rfl⟩) F hb hx I (show Vals [V.ref a] [Value.ref a] from .cons rfl .nil) hsp) fun v s' hv => ?_)
  obtain ⟨y, H', I', ry, i, rfl, h0, h1, q⟩ := hv
  obtain ⟨t, rfl⟩ := ry
  exact ⟨⟨h0, h1⟩, .int i, H', I'.tok _, ⟨_, rfl⟩, q⟩
end
section
variable {K : PySem.W.Frag} {M : EC → Addr} {W : WX} {ps qs : Kn} {te ta tb : TE} {tr : TA} {t : TT} {ts tu : TS} {r : Res} {vs : List Nat}
theorem je_lenO {α : Type} {args : α → List PV} {dom : α → Prop} {out : α → Out} {C : Addr} {f : Str} {d : PyData} {i : Int} (a : α) (h : JV K M W te ps (ob1 K C f d)) (ea : args a = [ob1 K C f d]) (hd : dom a) (ho : out a = .ok (dv K (.int i))) (h0 : 0 ≤ i) (h1 : i < 2 ^ 63) :
    JD K M W (tCB (rLenO C (Prm K M args dom out) fun _ _ _ => False) (tCons te tNil)) ps (.int i) := je_cb (ja_cons h ja_nil) fun vs F H fh b Q k => by
  obtain ⟨v, rfl, p⟩ := allP1 b
  obtain ⟨o, dx, u, rfl, h2, h3⟩ := id p
  refine ⟨o, dx, _, rfl, fh _ _ h2, a, F, fh, by rw [ea]; exact .cons p .nil, hd, ?_⟩
  rw [ho]
  intro v F' H' g p2
  exact ⟨i, dp_int p2, h0, h1, k _ F' H' g (.int i)⟩
/-! ### lists made anew -/
/-- a list that was just made: nobody else has it -/
def JN (K : PySem.W.Frag) (te : TE) (ps : Kn) (ds : List PyData) : Prop := ∀ σ F H Q, Ex F H → Sl F σ ps → (∀ D F' H', Acc K D F H F' H' ds → H D = none → Q (.ref D) H') → te σ H Q
theorem Acc.pre {D : Addr} {F0 H0 F1 H1 F H : Hp} {ds : List PyData} (g : Gr F0 H0 F1 H1) (a : Acc K D F1 H1 F H ds) : Acc K D F0 H0 F H ds := ⟨g.trans a.gr, a.off, a.at_⟩
theorem jn_told (h : JN K te ps ds) : JD K M W te ps (.list ds) := fun σ F H Q fh S k => h σ F H Q fh S fun D F' H' A hD => by
  obtain ⟨F3, g3, d3, _⟩ := A.done hD
  exact k _ F3 H' g3 d3
theorem jn_is {ds es : List PyData} (h : JN K te ps ds) (e : ds = es) : JN K te ps es := e ▸ h
def PrmN (K : PySem.W.Frag) {α : Type} (args : α → List PV) (dom : α → Prop) (out : α → List PyData) : Sp := fun vs H Q _ => ∃ a F, Ex F H ∧ AllP F vs (args a) ∧ dom a ∧ (∀ D F' H', Acc K D F H F' H' (out a) → H D = none → Q (.ref D) H')
theorem jn_call {α : Type} {args : α → List PV} {dom : α → Prop} {out : α → List PyData} {E : L2.St → XK} (a : α) (h : JA K M W tr ps (args a)) (hd : dom a) : JN K (tCallS (PrmN K args dom out) E tr) ps (out a) := fun σ F H Q fh S k =>
  h σ F H _ fh S fun vs F1 H1 e1 b => ⟨a, F1, e1.fh, b, hd, fun D F' H' A hD => k D F' H' (A.pre e1) (fresh_back e1.hh hD)⟩
/-- [e for x in ds if b], made anew -/
theorem jn_lc {α : Type} {wi : TI} {g : TG} (xs : List α) (enc : α → PyData) (b : α → Bool) (e : α → PyData) {W' : WX} (hi : JI K M W wi ps (xs.map enc)) (hlen : xs.length ≤ 90000)
    (hs : ∀ x ∈ xs, ∃ qs, JG vs g (wipeK ps vs) (dv K (enc x)) qs ∧ JT K M W' t qs (b x) ∧ (b x = true → JD K M W' te qs (e x))) : JN K (tLc wi g t te vs) ps ((xs.filter b).map e) := fun σ F H Q fh S k => hi σ F H _ fh S fun J F1 H1 e1 it D hD => by
  refine ⟨fun i n H' => n = xs.length - i ∧ i ≤ xs.length ∧ ∃ F', Acc K D F1 H1 F' H' (((xs.take i).filter b).map e), ⟨xs.length, by omega, Nat.zero_le _, F1, Acc.start e1.fh hD⟩, ?_⟩
  rintro i n H' ⟨rfl, him, F2, A⟩
  have accLen : (((xs.take i).filter b).map e).length ≤ i := by
    rw [List.length_map]
    have := List.length_filter_le b (xs.take i)
    rw [List.length_take] at this
    omega
  by_cases hlt : i < xs.length
  · have hx : xs[i]? = some xs[i] := List.getElem?_eq_getElem hlt
    have hmem : xs[i] ∈ xs := List.getElem_mem hlt
    have hex : (xs.map enc)[i]? = some (enc xs[i]) := by rw [List.getElem?_map, hx] <;> rfl
    refine .inr ⟨it.go i H' (A.gr.ff.trans A.gr.fh) (by rw [List.length_map]; exact hlt), fun H3 => ∃ F3, Acc K D F1 H1 F3 H3 (((xs.take (i + 1)).filter b).map e), fun H3 q => ⟨xs.length - (i + 1), by omega, rfl, hlt, q⟩, fun x H3 y => ?_⟩
    obtain ⟨F3, e3, dx⟩ := it.yld i _ F2 H' x H3 A.gr.ff A.gr.fh hex y
    have A3 := A.step e3
    obtain ⟨qs, hg, ht, he⟩ := hs xs[i] hmem
    refine hg x (wipe σ vs) F3 H3 _ e3.fh ((S.mono (e1.ff.trans A3.gr.ff)).wipe vs) dx fun σ4 F4 H4 e4 S4 u4 => ⟨wipe_upto (upto_wipe.trans u4), ht σ4 F4 H4 _ e4.fh S4 fun F5 H5 e5 => ?_⟩
    have A5 := (A3.step e4).step e5
    have ff := filter_take_succ (b := b) hx
    cases hb : b xs[i] with
    | true =>
      rw [hb] at ff
      show te σ4 H5 _
      refine (he hb).go e5.fh (S4.mono e5.ff) fun v F6 H6 e6 p => ?_
      have A6 := A5.step e6
      obtain ⟨acc, h6, _⟩ := A6.at_
      refine ⟨acc, h6, sz_lt (by rw [A6.len h6]; omega), F6, ?_⟩
      rw [ff, List.map_append]
      exact A6.app hD h6 p
    | false =>
      rw [hb] at ff
      show ∃ F3, Acc K D F1 H1 F3 H5 _
      rw [ff]
      simp only [Bool.false_eq_true, if_false, List.append_nil]
      exact ⟨F5, A5⟩
  · have hem : i = xs.length := by omega
    subst hem
    rw [List.take_length] at A
    exact .inl ⟨it.stop _ H' (A.gr.ff.trans A.gr.fh) (by rw [List.length_map]; exact Nat.le_refl _), k D F2 H' (A.pre e1) (fresh_back e1.hh hD)⟩
/-- xs * k -/
theorem jn_rep {ds : List PyData} {k : Nat} (ha : JV K M W ta ps (lv K ds)) (hb : JD K M W tb ps (.int (k : Nat))) (hl : ds.length * k ≤ 100000) (hk : k ≤ 100000) : JN K (tOp rRep ta tb) ps (List.replicate k ds).flatten := fun σ F H Q fh S c =>
  ha.go fh S fun x F1 H1 e1 p => hb.go e1.fh (S.mono e1.ff) fun y F2 H2 e2 q => by
    obtain ⟨a, xs, rfl, hx, hd⟩ := (lv K ds).mn e2.ff p
    refine ⟨a, k, xs, rfl, dp_int q, e2.fh _ _ hx, by omega, by omega, sz_of (by rw [dpLength hd, Int.toNat_natCast]; exact hl), fun D hD => ?_⟩
    have rep : ∀ j : Nat, DpAll K F2 (List.replicate j xs).flatten (List.replicate j ds).flatten := fun j => by
      induction j with
      | zero => exact .nil
      | succ j ih =>
        rw [List.replicate_succ, List.replicate_succ, List.flatten_cons, List.flatten_cons]
        exact dpApp hd ih
    exact c D F2 _ ⟨gr_mut (e1.trans e2) (fresh_back (e1.trans e2).hh hD) (fresh_back e2.fh hD), fresh_back e2.fh hD, _, upd_same, by rw [Int.toNat_natCast]; exact rep k⟩ (fresh_back (e1.trans e2).hh hD)
/-- list(e) -/
theorem jn_listL {ds : List PyData} (h : JD K M W te ps (.list ds)) : JN K (tCB (rListS K) (tCons te tNil)) ps ds := fun σ F H Q fh S c => h.go fh S fun v F1 H1 e p => by
  obtain ⟨a, xs, rfl, hs, hd⟩ := dp_lst p
  exact ⟨a, xs, rfl, .inl (ex_l e.fh hs), fun D hD => c D F1 _ ⟨gr_mut e (fresh_back e.hh hD) (fresh_back e.fh hD), fresh_back e.fh hD, xs, upd_same, hd⟩ (fresh_back e.hh hD)⟩
/-- xs = e, a list of one's own from here on -/
theorem jl_own {i : Nat} {ds : List PyData} {d : PyData} (he : JN K te ps ds) (h : ∀ D F1 H1, H1 D = none → JL K M W D F1 H1 tu (ps.set i (some (xv (.ref D)))) ds (.rt d)) : JS K M W (tSeq (tAsg te (gName i)) tu) ps (.rt (dv K d)) := fun Dn σ F H fh S k =>
  he σ F H _ fh S fun D F1 H1 A hD => h D F H hD Dn _ F1 H1 A ((S.mono A.gr.ff).set i rfl) fun v F' H' g p => k v F' H' g p
/-- .. told as data in between: reads of a list of one's own -/
theorem acc_told {D : Addr} {F1 H1 F H : Hp} {i : Nat} {σ : L2.St} {ds : List PyData} (A : Acc K D F1 H1 F H ds) (S : Sl F σ ps) (hi : ps[i]? = some (some (xv (.ref D)))) : ∃ F0, Ex F F0 ∧ Ex F0 H ∧ Sl F0 σ (ps.set i (some (dv K (.list ds)))) ∧ ∀ a, a ≠ D → F0 a = F a := by
  obtain ⟨acc0, h0, hd0⟩ := A.at_
  have fo : Ex F (upd F D (.lst acc0)) := Ex.new A.off
  refine ⟨upd F D (.lst acc0), fo, fun b o q => ?_, ⟨by rw [List.length_set]; exact S.1, fun b P hb => ?_⟩, fun a ha => upd_ne ha⟩
  · by_cases z : b = D
    · subst z
      rw [upd_same] at q
      cases q
      exact h0
    · rw [upd_ne z] at q
      exact A.gr.fh b o q
  · by_cases z : b = i
    · subst z
      have hl : b < ps.length := (List.getElem?_eq_some_iff.mp hi).1
      rw [List.getElem?_set_self hl] at hb
      cases hb
      exact ⟨_, sl_at S hi, .lst (sq_of upd_same) (dpAll_mono fo hd0)⟩
    · rw [List.getElem?_set_ne (fun y => z y.symm)] at hb
      exact (S.mono fo).2 b P hb
/-- a test that reads the list -/
theorem jl_ifR {D : Addr} {F1 H1 : Hp} {i : Nat} {ds : List PyData} {R : LR} {b : Bool} (hi : ps[i]? = some (some (xv (.ref D)))) (h : JT K M W t (ps.set i (some (dv K (.list ds)))) b) (h1 : b = true → JL K M W D F1 H1 ts ps ds R) (h2 : b = false → JL K M W D F1 H1 tu ps ds R) : JL K M W D F1 H1 (tIfS t ts tu) ps ds R := fun Dn σ F H A S k => by
  obtain ⟨F0, x0, x1, S0, _⟩ := acc_told A S hi
  refine h σ F0 H _ x1 S0 fun F' H' g => ?_
  have A' : Acc K D F1 H1 F H' ds := by
    obtain ⟨acc, hh, hd⟩ := A.at_
    exact ⟨⟨A.gr.ff, A.gr.hh.trans g.hh, A.gr.fh.trans g.hh, A.gr.nw⟩, A.off, acc, g.hh _ _ hh, hd⟩
  cases b with
  | true => exact h1 rfl Dn σ F H' A' S k
  | false => exact h2 rfl Dn σ F H' A' S k
/-- y = list(xs), xs one's own: a copy that is data -/
theorem jl_copyOf {D : Addr} {F1 H1 : Hp} {i j : Nat} {ds : List PyData} (hi : ps[i]? = some (some (xv (.ref D)))) : JL K M W D F1 H1 (tAsg (tCB (rListS K) (tCons (tVar i) tNil)) (gName j)) ps ds (.nx (ps.set j (some (dv K (.list ds)))) ds) := fun Dn σ F H A S k => by
  obtain ⟨acc, h0, hd⟩ := A.at_
  refine ⟨.ref D, sl_at S hi, D, acc, rfl, .inl (sq_of h0), fun l hl => ?_⟩
  have g := Gr.new (o := .lst acc) A.gr.fh hl
  exact k _ _ _ (A.step g) g.ff ((S.mono g.ff).set j (.lst (sq_of upd_same) (dpAll_mono g.ff hd)))
theorem jl_copyT {D : Addr} {F1 H1 : Hp} {i j : Nat} {ds : List PyData} (hi : ps[i]? = some (some (xv (.ref D)))) : JL K M W D F1 H1 (tAsg (tCB (rTupS K) (tCons (tVar i) tNil)) (gName j)) ps ds (.nx (ps.set j (some (dv K (.tuple ds)))) ds) := fun Dn σ F H A S k => by
  obtain ⟨acc, h0, hd⟩ := A.at_
  refine ⟨.ref D, sl_at S hi, D, acc, rfl, .inl ⟨sq_of h0, fun l hl => ?_⟩⟩
  have g := Gr.new (o := .tup acc) A.gr.fh hl
  exact k _ _ _ (A.step g) g.ff ((S.mono g.ff).set j (.tup (st_of upd_same) (dpAll_mono g.ff hd)))
theorem jl_rt {D : Addr} {F1 H1 : Hp} {ds : List PyData} {d : PyData} (h : JD K M W te ps d) : JL K M W D F1 H1 (tRet te) ps ds (.rt d) := fun Dn σ F H A S k => h.go A.gr.fh S fun v F' H' g p => k v F' H' (A.gr.trans g) p
theorem jl_rtS {D : Addr} {F1 H1 : Hp} {ds : List PyData} {d : PyData} (h : JL K M W D F1 H1 ts ps ds (.rt d)) : JL K M W D F1 H1 (tSeq ts tu) ps ds (.rt d) := fun Dn σ F H A S k => h { Dn with nx := tu Dn } σ F H A S k
/-- return of a list made anew -/
theorem fin_new {N : List Str} {Ps : List PV} {us : List V} {F H : Hp} {Q : VK} {ds : List PyData} (h : JN K te (entry N Ps) ds) (fh : Ex F H) (al : AllP F us Ps) (th : ∀ D F' H', Acc K D F H F' H' ds → H D = none → Q (.ref D) H') : tRet te { nx := fun _ H' => Q .non H', rt := Q } (start N us) H := h _ F H _ fh (Sl.start al) th
theorem fin_new1 {N : List Str} {Ps : List PV} {us : List V} {F H : Hp} {Q : VK} {ds : List PyData} (h1 : JS K M W ts (entry N Ps) (.nx qs)) (h : JN K te qs ds) (fh : Ex F H) (al : AllP F us Ps) (th : ∀ D F' H', Acc K D F H F' H' ds → H D = none → Q (.ref D) H') : tSeq ts (tRet te) { nx := fun _ H' => Q .non H', rt := Q } (start N us) H :=
  h1 { nx := tRet te { nx := fun _ H' => Q .non H', rt := Q }, rt := Q } _ F H fh (Sl.start al) fun σ' F' H' g S' => h σ' F' H' _ g.fh S' fun D F2 H2 A hD => th D F2 H2 (A.pre g) (fresh_back g.hh hD)
/-! ### more of lists -/
theorem je_isL {ds : List PyData} {T : String} {b : Bool} (h : JD K M W te ps (.list ds)) (hT : kitB "list" T = some b) : JD K M W (tCB (rIsi K) (tCons te (tCons (tC (.ty T)) tNil))) ps (.bool b) := je_cb (ja_cons h (ja_cons je_x ja_nil)) fun vs F H fh a Q k => by
  obtain ⟨v, u, rfl, p, q⟩ := allP2 a
  obtain ⟨o, xs, rfl, hs, hd⟩ := dp_lst p
  rw [show u = V.ty T from q]
  have ty : TyX K H (.ref o) (.type "list") := by
    rcases ex_l fh hs with (z | ⟨ob, z⟩) | ⟨ob, its, n, z, c, _⟩
    · exact .base (.lst z)
    · exact .base (.frz z)
    · exact .kList z c
  exact ⟨.ref o, .ty T, .type "list", .type T, b, rfl, .ty T, ty, kit_ty hT, k _ F H (Gr.refl fh) (.bl b)⟩
theorem je_sum {ns : List Int} (h : JD K M W te ps (.list (ns.map .int))) : JD K M W (tCB (rSum K) (tCons te tNil)) ps (.int ns.sum) := je_cb (ja_cons h ja_nil) fun vs F H fh b Q k => by
  obtain ⟨v, rfl, p⟩ := allP1 b
  obtain ⟨a, xs, rfl, hs, hd⟩ := dp_lst p
  have e := dpAll_ints_eq hd
  subst e
  exact ⟨a, ns, rfl, ex_l fh hs, k _ F H (Gr.refl fh) (.int _)⟩
theorem je_count {ns : List Int} {i : Int} (h : JD K M W te ps (.list (ns.map .int))) (hr : JA K M W tr ps [dv K (.int i)]) : JD K M W (tBM K "list" (rCntI K) te tr) ps (.int (ns.count i : Nat)) := fun σ F H Q fh S k => h.go fh S fun v F1 H1 e p => by
  obtain ⟨a, xs, rfl, hs, hd⟩ := dp_lst p
  have e2 := dpAll_ints_eq hd
  subst e2
  refine ⟨.inl ⟨rfl, _, ex_l e.fh hs⟩, hr σ F1 H1 _ e.fh (S.mono e.ff) fun vs F2 H2 e2 b => ?_⟩
  obtain ⟨v, rfl, p2⟩ := allP1 b
  exact ⟨a, ns, i, rfl, by rw [dp_int p2], ex_l (e.fh.trans e2.hh) hs, k _ F2 H2 (e.trans e2) (.int _)⟩
theorem dpRev {F : Hp} : ∀ {us : List V} {ds : List PyData}, DpAll K F us ds → DpAll K F us.reverse ds.reverse
  | _, _, .nil => .nil
  | _, _, .cons h t => by
    rw [List.reverse_cons, List.reverse_cons]
    exact dpApp (dpRev t) (.cons h .nil)
theorem je_rev {ds : List PyData} (h : JD K M W te ps (.list ds)) : JD K M W (tRevL K te) ps (.list ds.reverse) := fun σ F H Q fh S k => h.go fh S fun v F1 H1 e p => by
  obtain ⟨a, xs, rfl, hs, hd⟩ := dp_lst p
  exact ⟨a, xs, rfl, ex_l e.fh hs, fun D hD => k _ _ _ (e.trans (Gr.new e.fh hD)) (.lst (sq_of upd_same) (dpAll_mono (Gr.new (o := .lst xs.reverse) e.fh hD).ff (dpRev hd)))⟩
/-- xs[:k], made anew, as an operand of + -/
theorem je_slLV {ds : List PyData} {tl th : TO} {lo hi : Option Int} (h : JD K M W te ps (.list ds)) (h1 : JO K M W tl ps lo) (h2 : JO K M W th ps hi) : JV K M W (tSl (rSlL K) te tl th) ps (lv K (cutD ds lo hi)) := fun σ F H Q fh S k =>
  h.go fh S fun v F1 H1 e p => h1 σ F1 H1 _ e.fh (S.mono e.ff) fun F2 H2 e2 => h2 σ F2 H2 _ e2.fh ((S.mono e.ff).mono e2.ff) fun F3 H3 e3 => by
    obtain ⟨a, xs, rfl, hs, hd⟩ := dp_lst (dp_mono (e2.ff.trans e3.ff) p)
    exact ⟨a, xs, rfl, ex_l e3.fh hs, fun p hp => k _ _ _ (((e.trans e2).trans e3).trans (Gr.new e3.fh hp)) ⟨p, _, rfl, upd_same, dpAll_mono (Gr.new (o := .lst (cutV xs lo hi)) e3.fh hp).ff (cut_all hd lo hi)⟩⟩
/-- xs[:k] of a list or of a tuple -/
def rSlQ (K : PySem.W.Frag) : V → Option Int → Option Int → Hp → VK → Prop := fun x lo hi H Q => rSlL K x lo hi H Q ∨ rSlA K x lo hi H Q
theorem je_slQL {ds : List PyData} {tl th : TO} {lo hi : Option Int} (h : JD K M W te ps (.list ds)) (h1 : JO K M W tl ps lo) (h2 : JO K M W th ps hi) : JD K M W (tSl (rSlQ K) te tl th) ps (.list (cutD ds lo hi)) := fun σ F H Q fh S k =>
  h.go fh S fun v F1 H1 e p => h1 σ F1 H1 _ e.fh (S.mono e.ff) fun F2 H2 e2 => h2 σ F2 H2 _ e2.fh ((S.mono e.ff).mono e2.ff) fun F3 H3 e3 => by
    obtain ⟨a, xs, rfl, hs, hd⟩ := dp_lst (dp_mono (e2.ff.trans e3.ff) p)
    exact .inl ⟨a, xs, rfl, ex_l e3.fh hs, fun p hp => k _ _ _ (((e.trans e2).trans e3).trans (Gr.new e3.fh hp)) (.lst (sq_of upd_same) (dpAll_mono (Gr.new (o := .lst (cutV xs lo hi)) e3.fh hp).ff (cut_all hd lo hi)))⟩
theorem cut_whole {ds : List PyData} {lo hi : Option Int} (h : HT.sIx ds.length 0 lo = 0 ∧ HT.sIx ds.length ds.length hi = ds.length) : cutD ds lo hi = ds := by
  unfold cutD
  rw [h.1, h.2, List.drop_zero, Nat.sub_zero, List.take_length]
theorem je_slQT {ds : List PyData} {tl th : TO} {lo hi : Option Int} (h : JD K M W te ps (.tuple ds)) (h1 : JO K M W tl ps lo) (h2 : JO K M W th ps hi) : JD K M W (tSl (rSlQ K) te tl th) ps (.tuple (cutD ds lo hi)) := fun σ F H Q fh S k =>
  h.go fh S fun v F1 H1 e p => h1 σ F1 H1 _ e.fh (S.mono e.ff) fun F2 H2 e2 => h2 σ F2 H2 _ e2.fh ((S.mono e.ff).mono e2.ff) fun F3 H3 e3 => by
    have p3 := dp_mono (e2.ff.trans e3.ff) p
    obtain ⟨a, xs, rfl, hs, hd⟩ := dp_tup p3
    refine .inr ⟨a, xs, rfl, ex_t e3.fh hs, fun w => k _ _ _ ((e.trans e2).trans e3) ?_, fun _ p hp => k _ _ _ (((e.trans e2).trans e3).trans (Gr.new e3.fh hp)) (.tup (st_of upd_same) (dpAll_mono (Gr.new (o := .tup (cutV xs lo hi)) e3.fh hp).ff (cut_all hd lo hi)))⟩
    rw [dpLength hd] at w
    rw [cut_whole w]
    exact p3
/-- enumerate of a list or of a tuple -/
def iEnumQ (K : PySem.W.Frag) (ta : TA) : TI := fun σ H R => iEnum K ta σ H R ∨ iEnumT K ta σ H R
theorem pi_enumQ {X : Cx} {e : Expr} {ta : TA} {p pos tpos : Pos} {elts : List Expr} {kk : Nat} (hg : Gl X "enumerate") (hm : X.mg "enumerate" = none) (ha : PA X [e] ta) (hs : starEach [e] X.env = [(false, eval e X.env)] := by rfl) :
    PI X (.Tuple elts kk tpos) (.Call (.Name "enumerate" p) [e] [] pos) (iEnumQ X.K ta) :=
  ⟨fun pins s σ H R I h => h.elim (fun h => (pi_enum hg hm ha hs).run pins s σ H R I h) fun h => (pi_enumT hg hm ha hs).run pins s σ H R I h⟩
/-- a list or a tuple walked -/
def iSeqQ (K : PySem.W.Frag) (ta : TE) : TI := fun σ H R => iList K ta σ H R ∨ iTup K ta σ H R
theorem pi_seqQ {X : Cx} {tg e : Expr} {ta : TE} (ha : PE X e ta) : PI X tg e (iSeqQ X.K ta) := ⟨fun pins s σ H R I h => h.elim (fun h => (pi_list ha).run pins s σ H R I h) fun h => (pi_tup ha).run pins s σ H R I h⟩
/-- True in bs, False in bs -/
theorem je_inB {b : Bool} {bs : List Bool} (ha : JD K M W ta ps (.bool b)) (hb : JD K M W tb ps (.list (bs.map .bool))) : JD K M W (tOp (rIn K false) ta tb) ps (.bool (bs.contains b)) := je_op ha hb fun x y F H fh p q Q k => by
  obtain ⟨a, xs, rfl, hs, hd⟩ := dp_lst q
  have e : ∀ {xs : List V} {bs : List Bool}, DpAll K F xs (bs.map PyData.bool) → xs = bs.map V.bl := by
    intro xs bs
    induction bs generalizing xs with
    | nil => intro h; cases h; rfl
    | cons c r ih =>
      intro h
      cases h with
      | cons h1 h2 => rw [dp_bl h1, ih h2] <;> rfl
  have e := e hd
  subst e
  rw [dp_bl p]
  have fl : ∀ bs : List Bool, (bs.map V.bl).all flatV = true := fun bs => by
    induction bs with
    | nil => rfl
    | cons c r ih =>
      rw [List.map_cons, List.all_cons, ih]
      rfl
  have iv : ∀ bs : List Bool, inV (.bl b) (bs.map V.bl) = bs.contains b := fun bs => by
    induction bs with
    | nil => rfl
    | cons c r ih =>
      unfold inV at ih ⊢
      rw [List.map_cons, List.any_cons, List.contains_cons, ih]
      congr 1
      cases b <;> cases c <;> rfl
  refine ⟨a, _, rfl, .inl (ex_l fh hs), rfl, fl bs, ?_⟩
  rw [iv]
  exact k _ F H (Gr.refl fh) (.bl _)
end
end EB

/-! EB12: several lists of one's own at once, lists of such lists; each told as data at the end. -/
namespace EB
open PySem PySem.Spec PyProof.Rows L2 Evl
/-- the lists of one's own: where each lies, and what is known of each item -/
abbrev Ow := List (Addr × List PV)
structure AccM (Os : Ow) (F1 H1 F H : Hp) : Prop where
  gr : Gr F1 H1 F H
  nd : (Os.map (·.1)).Nodup
  fr : ∀ p ∈ Os, H1 p.1 = none
  off : ∀ p ∈ Os, F p.1 = none
  at_ : ∀ p ∈ Os, ∃ acc, H p.1 = some (.lst acc) ∧ AllP F acc p.2
theorem AccM.start {F H : Hp} (fh : Ex F H) : AccM [] F H F H := ⟨Gr.refl fh, List.nodup_nil, fun p h => by simp at h, fun p h => by simp at h, fun p h => by simp at h⟩
theorem AccM.step {Os : Ow} {F1 H1 F H F2 H2 : Hp} (a : AccM Os F1 H1 F H) (g : Gr F H F2 H2) : AccM Os F1 H1 F2 H2 := ⟨a.gr.trans g, a.nd, a.fr, fun p h => by
    obtain ⟨acc, e, _⟩ := a.at_ p h
    exact g.nw p.1 (by rw [e]; exact fun z => nomatch z) (a.off p h), fun p h => by
    obtain ⟨acc, e, d⟩ := a.at_ p h
    exact ⟨acc, g.hh _ _ e, d.mono g.ff⟩⟩
theorem AccM.new {Os : Ow} {F1 H1 F H : Hp} {D : Addr} {acc : List V} {items : List PV} (a : AccM Os F1 H1 F H) (hD : H D = none) (h : AllP F acc items) : AccM ((D, items) :: Os) F1 H1 F (upd H D (.lst acc)) := by
  have f1 : H1 D = none := fresh_back a.gr.hh hD
  have f2 : F D = none := fresh_back a.gr.fh hD
  have ne : ∀ p ∈ Os, p.1 ≠ D := fun p hp z => by
    obtain ⟨acc, e, _⟩ := a.at_ p hp
    rw [z, hD] at e
    cases e
  refine ⟨gr_mut a.gr f1 f2, List.nodup_cons.mpr ⟨fun z => ?_, a.nd⟩, fun p hp => ?_, fun p hp => ?_, fun p hp => ?_⟩
  · obtain ⟨p, hp, e⟩ := List.mem_map.mp z
    exact ne p hp e
  · rcases List.mem_cons.mp hp with rfl | z
    · exact f1
    · exact a.fr p z
  · rcases List.mem_cons.mp hp with rfl | z
    · exact f2
    · exact a.off p z
  · rcases List.mem_cons.mp hp with rfl | z
    · exact ⟨acc, upd_same, h⟩
    · obtain ⟨c, e, d⟩ := a.at_ p z
      exact ⟨c, by rw [upd_ne (ne p z)]; exact e, d⟩
theorem AccM.set {Os : Ow} {F1 H1 F H : Hp} {i : Nat} {D : Addr} {items items' : List PV} {acc : List V} (a : AccM Os F1 H1 F H) (hi : Os[i]? = some (D, items)) (h : AllP F acc items') : AccM (Os.set i (D, items')) F1 H1 F (upd H D (.lst acc)) := by
  have hl : i < Os.length := (List.getElem?_eq_some_iff.mp hi).1
  have hm : (D, items) ∈ Os := List.mem_of_getElem? hi
  have e1 : (Os.set i (D, items')).map (·.1) = Os.map (·.1) := by
    rw [List.map_set]
    apply List.ext_getElem?
    intro j
    by_cases z : i = j
    · subst z
      rw [List.getElem?_set_self (by rw [List.length_map]; exact hl), List.getElem?_map, hi]
      rfl
    · rw [List.getElem?_set_ne z]
  have cases_ : ∀ p ∈ Os.set i (D, items'), p = (D, items') ∨ (p ∈ Os ∧ p.1 ≠ D) := fun p hp => by
    obtain ⟨j, hj, e⟩ := List.getElem_of_mem hp
    rw [List.length_set] at hj
    by_cases z : i = j
    · subst z
      rw [List.getElem_set_self] at e
      exact .inl e.symm
    · rw [List.getElem_set_ne z] at e
      refine .inr ⟨e ▸ List.getElem_mem hj, fun y => ?_⟩
      have nd := List.pairwise_iff_getElem.mp (List.nodup_iff_pairwise_ne.mp a.nd)
      have ei : Os[i] = (D, items) := by
        have := hi
        rw [List.getElem?_eq_getElem hl] at this
        exact Option.some.inj this
      have q1 : (Os.map (·.1))[i]'(by rw [List.length_map]; exact hl) = D := by rw [List.getElem_map, ei]
      have q2 : (Os.map (·.1))[j]'(by rw [List.length_map]; exact hj) = D := by rw [List.getElem_map, e, y]
      rcases Nat.lt_or_gt_of_ne z with w | w
      · exact nd i j _ _ w (q1.trans q2.symm)
      · exact nd j i _ _ w (q2.trans q1.symm)
  refine ⟨gr_mut a.gr (a.fr _ hm) (a.off _ hm), by rw [e1]; exact a.nd, fun p hp => ?_, fun p hp => ?_, fun p hp => ?_⟩
  · rcases cases_ p hp with rfl | ⟨z, _⟩
    · exact a.fr (D, items) hm
    · exact a.fr p z
  · rcases cases_ p hp with rfl | ⟨z, _⟩
    · exact a.off (D, items) hm
    · exact a.off p z
  · rcases cases_ p hp with rfl | ⟨z, ne⟩
    · exact ⟨acc, upd_same, h⟩
    · obtain ⟨c, e, d⟩ := a.at_ p z
      exact ⟨c, by rw [upd_ne ne]; exact e, d⟩
inductive MR
  | nx (qs : Kn) (Os : Ow)
  | rt (d : PyData)
def MW (K : PySem.W.Frag) (F1 H1 : Hp) (Dn : Ends) (F : Hp) : MR → Prop
  | .nx qs Os => ∀ σ' F' H', AccM Os F1 H1 F' H' → Ex F F' → Sl F' σ' qs → Dn.nx σ' H'
  | .rt d => ∀ v F' H', Gr F1 H1 F' H' → Dp K F' v d → Dn.rt v H'
theorem MW.step {K : PySem.W.Frag} {F1 H1 : Hp} {Dn : Ends} {F F' : Hp} {R : MR} (e : Ex F F') (k : MW K F1 H1 Dn F R) : MW K F1 H1 Dn F' R := by
  cases R with
  | nx qs Os => exact fun σ2 F2 H2 A2 e2 S2 => k σ2 F2 H2 A2 (e.trans e2) S2
  | rt d => exact k
def JM (K : PySem.W.Frag) (F1 H1 : Hp) (ts : TS) (ps : Kn) (Os : Ow) (R : MR) : Prop := ∀ Dn σ F H, AccM Os F1 H1 F H → Sl F σ ps → MW K F1 H1 Dn F R → ts Dn σ H
/-- an expression that may change the lists of one's own -/
def JX (F1 H1 : Hp) (te : TE) (ps : Kn) (Os : Ow) (P : PV) (Os' : Ow) : Prop := ∀ σ F H Q, AccM Os F1 H1 F H → Sl F σ ps → (∀ v F' H', AccM Os' F1 H1 F' H' → Ex F F' → P.p F' v → Q v H') → te σ H Q
section
variable {K : PySem.W.Frag} {M : EC → Addr} {W : WX} {F1 H1 : Hp} {ps qs rs : Kn} {ts tu : TS} {te tx ti ta tb : TE} {t : TT} {Os Os0 Os1 Os2 : Ow} {R : MR} {P P0 : PV} {d : PyData} {D : Addr} {items : List PV} {vs : List Nat}
theorem jx_jv (h : JV K M W te ps P) : JX F1 H1 te ps Os P Os := fun σ F H Q A S k => h.go A.gr.fh S fun v F' H' g p => k v F' H' (A.step g) g.ff p
theorem jx_var {i : Nat} (h : ps[i]? = some (some P)) : JX F1 H1 (tVar i) ps Os P Os := fun σ F H Q A S k => by
  obtain ⟨v, h1, h2⟩ := S.2 i P h
  exact ⟨v, h1, k v F H A (Ex.refl _) h2⟩
/-- an item of a list of one's own -/
theorem jx_ix {i j : Nat} (hx : JX F1 H1 tx ps Os (xv (.ref D)) Os0) (hi : JX F1 H1 ti ps Os0 (xv (.int (j : Nat))) Os1) (h : Os1[i]? = some (D, items)) (hj : items[j]? = some P) : JX F1 H1 (tOp (rIxL K) tx ti) ps Os P Os1 := fun σ F H Q A S k => hx σ F H _ A S fun v F2 H2 A2 e2 p => hi σ F2 H2 _ A2 (S.mono e2) fun u F3 H3 A3 e3 q => by
  obtain ⟨acc, hh, hd⟩ := A3.at_ _ (List.mem_of_getElem? h)
  obtain ⟨w, hw, pw⟩ := hd.get hj
  exact ⟨D, acc, j, w, (show v = V.ref D from p), (show u = V.int j from q), sq_of hh, atI_nat hw, k w F3 H3 A3 (e2.trans e3) pw⟩
theorem jx_int {i : Int} (h : JD K M W te ps (.int i)) : JX F1 H1 te ps Os (xv (.int i)) Os := fun σ F H Q A S k => h.go A.gr.fh S fun v F' H' g p => k v F' H' (A.step g) g.ff (dp_int p)
/-- xs.append(e) -/
theorem jx_app {i i0 : Nat} {items0 : List PV} (hx : JX F1 H1 tx ps Os (xv (.ref D)) Os0) (h0 : Os0[i0]? = some (D, items0)) (ha : JX F1 H1 ta ps Os0 P Os1) (h : Os1[i]? = some (D, items)) (hl : items.length < 90000) : JX F1 H1 (tBM K "list" rAppend tx (tCons ta tNil)) ps Os (dv K .none) (Os1.set i (D, items ++ [P])) := fun σ F H Q A S k => hx σ F H _ A S fun v F2 H2 A2 e2 p => by
  obtain rfl : v = V.ref D := p
  obtain ⟨acc0, hh0, _⟩ := A2.at_ _ (List.mem_of_getElem? h0)
  refine ⟨.inl ⟨rfl, acc0, sq_of hh0⟩, ha σ F2 H2 _ A2 (S.mono e2) fun u F3 H3 A3 e3 q => ?_⟩
  obtain ⟨acc, hh, hd⟩ := A3.at_ _ (List.mem_of_getElem? h)
  exact ⟨D, acc, u, rfl, rfl, hh, sz_lt (by rw [hd.length]; exact Nat.lt_trans hl (by decide)), k .non F3 _ (A3.set h (hd.app (.cons q .nil))) (e2.trans e3) .non⟩
theorem allErase {H : Hp} : ∀ {us : List V} {Ps : List PV} (j : Nat), AllP H us Ps → AllP H (us.eraseIdx j) (Ps.eraseIdx j)
  | _, _, _, .nil => .nil
  | _, _, 0, .cons _ b => b
  | _, _, j + 1, .cons a b => .cons a (allErase j b)
theorem allSet {H : Hp} {v : V} {P : PV} : ∀ {us : List V} {Ps : List PV} (j : Nat), AllP H us Ps → P.p H v → AllP H (us.set j v) (Ps.set j P)
  | _, _, _, .nil, _ => .nil
  | _, _, 0, .cons _ b, p => .cons p b
  | _, _, j + 1, .cons a b, p => .cons a (allSet j b p)
/-- xs.pop(k) -/
theorem jx_pop {i i0 : Nat} {items0 : List PV} {j : Nat} (hx : JX F1 H1 tx ps Os (xv (.ref D)) Os0) (h0 : Os0[i0]? = some (D, items0)) (ha : JX F1 H1 ta ps Os0 (xv (.int (j : Nat))) Os1) (h : Os1[i]? = some (D, items)) (hl : items.length < 90000) (hj : items[j]? = some P) : JX F1 H1 (tBM K "list" rPopAt tx (tCons ta tNil)) ps Os P (Os1.set i (D, items.eraseIdx j)) := fun σ F H Q A S k => hx σ F H _ A S fun v F2 H2 A2 e2 p => by
  obtain rfl : v = V.ref D := p
  obtain ⟨acc0, hh0, _⟩ := A2.at_ _ (List.mem_of_getElem? h0)
  refine ⟨.inl ⟨rfl, acc0, sq_of hh0⟩, ha σ F2 H2 _ A2 (S.mono e2) fun u F3 H3 A3 e3 q => ?_⟩
  obtain rfl : u = V.int (j : Nat) := q
  obtain ⟨acc, hh, hd⟩ := A3.at_ _ (List.mem_of_getElem? h)
  obtain ⟨w, hw, pw⟩ := hd.get hj
  have hjl : j < acc.length := (List.getElem?_eq_some_iff.mp hw).1
  have hal : acc.length = items.length := hd.length
  refine ⟨D, acc, j, j, w, rfl, rfl, hh, by omega, by omega, ?_, hw, k w F3 _ (A3.set h (allErase j hd)) (e2.trans e3) pw⟩
  unfold seqIndex?
  simp
  omega
theorem jm_js (h : JS K M W ts ps (.nx qs)) : JM K F1 H1 ts ps Os (.nx qs Os) := fun Dn σ F H A S k => h Dn σ F H A.gr.fh S fun σ' F' H' g s => k σ' F' H' (A.step g) g.ff s
theorem jm_weak (h : JM K F1 H1 ts ps Os (.nx qs Os1)) (w : Weak qs rs) : JM K F1 H1 ts ps Os (.nx rs Os1) := fun Dn σ F H A S k => h Dn σ F H A S fun σ' F' H' A' e s => k σ' F' H' A' e (s.weak w)
theorem jm_is (h : JM K F1 H1 ts ps Os (.nx qs Os1)) (e : Os1 = Os2) : JM K F1 H1 ts ps Os (.nx qs Os2) := e ▸ h
theorem jm_seq (h1 : JM K F1 H1 ts ps Os (.nx qs Os1)) (h2 : JM K F1 H1 tu qs Os1 R) : JM K F1 H1 (tSeq ts tu) ps Os R := fun Dn σ F H A S k => h1 { Dn with nx := tu Dn } σ F H A S fun σ' F' H' A' e S' => h2 Dn σ' F' H' A' S' (MW.step e k)
theorem jm_if {b : Bool} (h : JT K M W t ps b) (h1 : b = true → JM K F1 H1 ts ps Os R) (h2 : b = false → JM K F1 H1 tu ps Os R) : JM K F1 H1 (tIfS t ts tu) ps Os R := fun Dn σ F H A S k => h σ F H _ A.gr.fh S fun F' H' g => by
  have k' := MW.step g.ff k
  cases b with
  | true => exact h1 rfl Dn σ F' H' (A.step g) (S.mono g.ff) k'
  | false => exact h2 rfl Dn σ F' H' (A.step g) (S.mono g.ff) k'
theorem jm_drop (h : JX F1 H1 te ps Os P Os1) : JM K F1 H1 (tDrop te) ps Os (.nx ps Os1) := fun Dn σ F H A S k => h σ F H _ A S fun v F' H' A' e p => k σ F' H' A' e (S.mono e)
theorem jm_asg {i : Nat} (h : JX F1 H1 te ps Os P Os1) : JM K F1 H1 (tAsg te (gName i)) ps Os (.nx (ps.set i (some P)) Os1) := fun Dn σ F H A S k => h σ F H _ A S fun v F' H' A' e p => k _ F' H' A' e ((S.mono e).set i p)
/-- xs[k] = e -/
theorem jm_set {i j : Nat} (h : JX F1 H1 te ps Os P Os0) (hx : JX F1 H1 tx ps Os0 (xv (.ref D)) Os1) (hi : JX F1 H1 ti ps Os1 (xv (.int (j : Nat))) Os2) (ho : Os2[i]? = some (D, items)) (hj : j < items.length) : JM K F1 H1 (tAsg te (gSub tx ti rSetL)) ps Os (.nx ps (Os2.set i (D, items.set j P))) := fun Dn σ F H A S k => h σ F H _ A S fun v F2 H2 A2 e2 p => hx σ F2 H2 _ A2 (S.mono e2) fun x F3 H3 A3 e3 px => by
  obtain rfl : x = V.ref D := px
  refine hi σ F3 H3 _ A3 ((S.mono e2).mono e3) fun u F4 H4 A4 e4 q => ?_
  obtain rfl : u = V.int (j : Nat) := q
  obtain ⟨acc, hh, hd⟩ := A4.at_ _ (List.mem_of_getElem? ho)
  exact ⟨D, acc, (j : Nat), j, rfl, rfl, hh, ixN_nat (by rw [hd.length]; exact hj), k σ F4 _ (A4.set ho (allSet j hd (PV.mn _ (e3.trans e4) p))) ((e2.trans e3).trans e4) (((S.mono e2).mono e3).mono e4)⟩
/-- xs = [e, ..] -/
theorem jm_lst {i : Nat} {tr : TA} {Ps : List PV} (h : JA K M W tr ps Ps) (hl : Ps.length ≤ 100000) (hu : ∀ D, JM K F1 H1 tu (ps.set i (some (xv (.ref D)))) ((D, Ps) :: Os) R) : JM K F1 H1 (tSeq (tAsg (tLst tr) (gName i)) tu) ps Os R := fun Dn σ F H A S k => h σ F H _ A.gr.fh S fun vs F2 H2 g a => ⟨sz_of (by rw [a.length]; exact hl), fun D hD => hu D Dn _ F2 _ ((A.step g).new hD a) ((S.mono g.ff).set i rfl) (MW.step g.ff k)⟩
theorem jm_for {wi : TI} {g : TG} {tb : TS} (xs : List PyData) (f : Nat → Kn) (l : Nat → Ow) (hi : JI K M W wi ps xs) (h0 : f 0 = ps) (hl0 : l 0 = Os)
    (hs : ∀ (j : Nat) (d : PyData), xs[j]? = some d → ∃ qs, JG vs g (f j) (dv K d) qs ∧ JM K F1 H1 tb qs (l j) (.nx (f (j + 1)) (l (j + 1)))) : JM K F1 H1 (tFor wi g tb) ps Os (.nx (f xs.length) (l xs.length)) := fun Dn σ F H A S k => hi σ F H _ A.gr.fh S fun J F2 H2 e1 it => by
  refine ⟨fun i n σ' H' => n = xs.length - i ∧ i ≤ xs.length ∧ ∃ F', AccM (l i) F1 H1 F' H' ∧ Ex F2 F' ∧ Sl F' σ' (f i), ⟨xs.length, by omega, Nat.zero_le _, F2, by rw [hl0]; exact A.step e1, Ex.refl _, by rw [h0]; exact S.mono e1.ff⟩, ?_⟩
  rintro i n σ' H' ⟨rfl, him, F3, A3, e3, S3⟩
  by_cases hlt : i < xs.length
  · refine .inr ⟨it.go i H' (e3.trans A3.gr.fh) hlt, fun σ4 H4 => ∃ F4, AccM (l (i + 1)) F1 H1 F4 H4 ∧ Ex F2 F4 ∧ Sl F4 σ4 (f (i + 1)), fun σ4 H4 q => ⟨xs.length - (i + 1), by omega, rfl, hlt, q⟩, fun x H4 y => ?_⟩
    obtain ⟨F4, e4, dx⟩ := it.yld i _ F3 H' x H4 e3 A3.gr.fh (List.getElem?_eq_getElem hlt) y
    obtain ⟨qs, hg, hb⟩ := hs i _ (List.getElem?_eq_getElem hlt)
    have A4 := A3.step e4
    refine hg x σ' F4 H4 _ e4.fh (S3.mono e4.ff) dx fun σ5 F5 H5 e5 S5 _ => ?_
    exact hb _ σ5 F5 H5 (A4.step e5) S5 fun σ6 F6 H6 A6 e6 S6 => ⟨F6, A6, ((e3.trans e4.ff).trans e5.ff).trans e6, S6⟩
  · have hem : i = xs.length := by omega
    subst hem
    exact .inl ⟨it.stop _ H' (e3.trans A3.gr.fh) (Nat.le_refl _), k σ' F3 H' A3 (e1.ff.trans e3) S3⟩
/-- return of a list of one's own -/
theorem jm_ret {i j : Nat} {ds : List PyData} (hi : ps[i]? = some (some (xv (.ref D)))) (h : Os[j]? = some (D, ds.map (dv K))) : JM K F1 H1 (tRet (tVar i)) ps Os (.rt (.list ds)) := fun Dn σ F H A S k => by
  have hm := List.mem_of_getElem? h
  obtain ⟨acc, hh, hd⟩ := A.at_ _ hm
  exact ⟨.ref D, sl_at S hi, k _ _ H (gr_in A.gr (A.fr _ hm) (A.off _ hm) hh) (.lst (sq_of upd_same) (dpAll_mono (Ex.new (A.off _ hm)) hd.dv))⟩
theorem jm_rt {d : PyData} (h : JD K M W te ps d) : JM K F1 H1 (tRet te) ps Os (.rt d) := fun Dn σ F H A S k => h.go A.gr.fh S fun v F' H' g p => k v F' H' (A.gr.trans g) p
/-- from here on lists of one's own -/
theorem js_own {d : PyData} (h : ∀ F1 H1, JM K F1 H1 ts ps [] (.rt d)) : JS K M W ts ps (.rt (dv K d)) := fun Dn σ F H fh S k => h F H Dn σ F H (AccM.start fh) S fun v F' H' g p => k v F' H' g p
/-- .. and the other way: the lists that are told no more change (the rest stays one's own) -/
theorem jm_tell {i j : Nat} {ds : List PyData} (hi : ps[i]? = some (some (xv (.ref D)))) (h : Os = (D, ds.map (dv K)) :: Os1) (hu : JM K F1 H1 tu (ps.set i (some (lv K ds))) Os1 R) : JM K F1 H1 tu ps Os R := fun Dn σ F H A S k => by
  subst h
  have hm : (D, ds.map (dv K)) ∈ (D, ds.map (dv K)) :: Os1 := List.mem_cons_self
  obtain ⟨acc, hh, hd⟩ := A.at_ _ hm
  have off := A.off _ hm
  have fo : Ex F (upd F D (.lst acc)) := Ex.new off
  have nd := List.nodup_cons.mp A.nd
  refine hu Dn σ (upd F D (.lst acc)) H ⟨gr_in A.gr (A.fr _ hm) off hh, nd.2, fun p hp => A.fr p (List.mem_cons_of_mem _ hp), fun p hp => ?_, fun p hp => ?_⟩ ?_ (MW.step fo k)
  · have ne : p.1 ≠ D := fun z => nd.1 (List.mem_map.mpr ⟨p, hp, z⟩)
    show upd F D (.lst acc) p.1 = none
    rw [upd_ne ne]
    exact A.off p (List.mem_cons_of_mem _ hp)
  · obtain ⟨c, e, q⟩ := A.at_ p (List.mem_cons_of_mem _ hp)
    exact ⟨c, e, q.mono fo⟩
  · refine ⟨by rw [List.length_set]; exact S.1, fun b P hb => ?_⟩
    by_cases z : b = i
    · subst z
      have hl : b < ps.length := (List.getElem?_eq_some_iff.mp hi).1
      rw [List.getElem?_set_self hl] at hb
      cases hb
      exact ⟨_, sl_at S hi, D, acc, rfl, upd_same, dpAll_mono fo hd.dv⟩
    · rw [List.getElem?_set_ne (fun y => z y.symm)] at hb
      exact (S.mono fo).2 b P hb
theorem jm_done (h : JS K M W tu ps (.rt (dv K d))) : JM K F1 H1 tu ps Os (.rt d) := fun Dn σ F H A S k => h Dn σ F H A.gr.fh S fun v F' H' g p => k v F' H' (A.gr.trans g) p
end
end EB

/-! EB13: comb, shifts and masks, lists unpacked, not in, chains of ==. -/
namespace EB
open PySem PySem.Spec PyProof.Rows L2 Evl PySem.W
section
variable {X : Cx}
/-- f(e, ..), f a built-in function that a module's name holds -/
theorem pe_callG {x : Str} {p pos : Pos} {e : Expr} {es : List Expr} {id : String} {r : List V → Hp → VK → Prop} {t : TA} (hc : CallR X (.builtin id) r) (hg : Gl X x) (hm : X.mg x = some (.builtin id)) (ha : PA X (e :: es) t) (hdb : (x == ("__debug__" : Str)) = false := by decide)
    (he : starEach (e :: es) X.env = (false, eval e X.env) :: starEach es X.env := by rfl) (hpl : (backTo pos (starEach es X.env)).any (·.1) = false := by rfl) : PE X (.Call (.Name x p) (e :: es) [] pos) (tCB r t) := by
  refine ⟨fun pins s σ H Q I h => ?_⟩
  refine wpAny_Call_Name_kw (ld_glob I hg hm ?_ hdb)
  exact PyProof.Rows.callWith_builtin1 (thn (ha.run pos pins s σ H _ I h) fun us s1 ⟨vs, H1, I1, r1, q1⟩ => hc pins s1 σ H1 vs us Q I1 r1 q1) he hpl
def rComb : List V → Hp → VK → Prop := fun xs H Q => ∃ a b : Int, xs = [.int a, .int b] ∧ 0 ≤ a ∧ 0 ≤ b ∧ a < 2 ^ 64 ∧ (b ≤ 9000 ∨ a ≤ 18000) ∧ Q (.int (mcComb a b)) H
theorem cr_comb : CallR X (.builtin "math.comb") rComb := by
  intro pins s σ H xs us Q I r h
  obtain ⟨a, b, rfl, h0, h1, h2, h3, q⟩ := h
  cases r with
  | cons r1 r =>
    cases r with
    | cons r2 r =>
      cases r
      obtain ⟨t, rfl⟩ := r1
      obtain ⟨u, rfl⟩ := r2
      exact mc_comb_v h0 h1 h2 h3 rfl ⟨.int (mcComb a b), H, I.tok _, ⟨_, rfl⟩, q⟩
end
section
variable {K : PySem.W.Frag} {M : EC → Addr} {W : WX} {ps qs : Kn} {te ta tb tc : TE} {t : TT} {vs : List Nat}
theorem je_comb {a b : Int} (ha : JD K M W ta ps (.int a)) (hb : JD K M W tb ps (.int b)) (h0 : 0 ≤ a) (h1 : 0 ≤ b) (h2 : a < 2 ^ 64) (h3 : b ≤ 9000 ∨ a ≤ 18000) : JD K M W (tCB rComb (tCons ta (tCons tb tNil))) ps (.int (mcComb a b)) := je_cb (ja_cons ha (ja_cons hb ja_nil)) fun vs F H fh c Q k => by
  obtain ⟨v, u, rfl, p, q⟩ := allP2 c
  rw [dp_int p, dp_int q]
  exact ⟨a, b, rfl, h0, h1, h2, h3, k _ F H (Gr.refl fh) (.int _)⟩
theorem je_shl {i j : Int} (ha : JD K M W ta ps (.int i)) (hb : JD K M W tb ps (.int j)) (hc : CPow i j) : JD K M W (tOp (rI CPow fun i j => .int (i * 2 ^ j.toNat)) ta tb) ps (.int (i * 2 ^ j.toNat)) := je_iiC ha hb hc fun _ => .int _
theorem je_shr {i j : Int} (ha : JD K M W ta ps (.int i)) (hb : JD K M W tb ps (.int j)) (hc : 0 ≤ j) : JD K M W (tOp (rI (fun _ j => 0 ≤ j) fun i j => .int (i / 2 ^ j.toNat)) ta tb) ps (.int (i / 2 ^ j.toNat)) := je_iiC (C := fun _ j => 0 ≤ j) ha hb hc fun _ => .int _
theorem je_band {i j : Int} (ha : JD K M W ta ps (.int i)) (hb : JD K M W tb ps (.int j)) : JD K M W (tOp (rI0 fun i j => .int (Builtin.bitAnd i j)) ta tb) ps (.int (Builtin.bitAnd i j)) := je_ii0 ha hb fun _ => .int _
theorem jg_unl {gs : TGs} {n : Nat} {ds : List PyData} (h : JGs vs gs ps (ds.map (dv K)) qs) (hn : ds.length = n := by rfl) : JG vs (gUnl K n gs) ps (dv K (.list ds)) qs := fun v σ F H Q fh S p k => by
  obtain ⟨a, xs, rfl, hs, hd⟩ := dp_lst p
  exact ⟨a, xs, rfl, ex_l fh hs, by rw [dpLength hd, hn], h xs σ F H Q fh S (AllP.of_dv hd) k⟩
theorem je_notInT {i : Int} {ns : List Int} (ha : JD K M W ta ps (.int i)) (hb : JD K M W tb ps (.tuple (ns.map .int))) : JD K M W (tOp (rIn K true) ta tb) ps (.bool (!ns.contains i)) := je_op ha hb fun x y F H fh p q Q k => by
  obtain ⟨a, xs, rfl, hs, hd⟩ := dp_tup q
  have e := dpAll_ints_eq hd
  subst e
  rw [dp_int p]
  refine ⟨a, _, rfl, .inr (ex_t fh hs), rfl, flat_ints ns, ?_⟩
  rw [inV_ints]
  exact k _ F H (Gr.refl fh) (.bl _)
theorem je_notInL {i : Int} {ns : List Int} (ha : JD K M W ta ps (.int i)) (hb : JD K M W tb ps (.list (ns.map .int))) : JD K M W (tOp (rIn K true) ta tb) ps (.bool (!ns.contains i)) := je_op ha hb fun x y F H fh p q Q k => by
  obtain ⟨a, xs, rfl, hs, hd⟩ := dp_lst q
  have e := dpAll_ints_eq hd
  subst e
  rw [dp_int p]
  refine ⟨a, _, rfl, .inl (ex_l fh hs), rfl, flat_ints ns, ?_⟩
  rw [inV_ints]
  exact k _ F H (Gr.refl fh) (.bl _)
theorem rEq_bl {a b : Bool} {x y : V} {F H : Hp} (p : Dp K F x (.bool a)) (q : Dp K F y (.bool b)) {Q : VK} (h : Q (.bl (a == b)) H) : rEq x y H Q := by
  rw [dp_bl p, dp_bl q]
  refine ⟨rfl, ?_⟩
  have e : decide (V.bl a = V.bl b) = (a == b) := by
    cases a <;> cases b <;> simp
  rw [e]
  exact h
theorem je_eqB {a b : Bool} (ha : JD K M W ta ps (.bool a)) (hb : JD K M W tb ps (.bool b)) : JD K M W (tOp rEq ta tb) ps (.bool (a == b)) := je_op ha hb fun x y F H fh p q Q k => rEq_bl p q (k _ F H (Gr.refl fh) (.bl _))
/-- a == b == c, of bools -/
theorem je_chainB {a b c : Bool} (ha : JD K M W ta ps (.bool a)) (hb : JD K M W tb ps (.bool b)) (hc : JD K M W tc ps (.bool c)) : JD K M W (tChain rEq rEq ta tb tc) ps (.bool ((a == b) && (b == c))) :=
  je_chain ha hb (fun x y F H fh p q Q k => rEq_bl p q k) (fun _ => hc) (fun x y F H fh p q Q k => rEq_bl p q k)
end
end EB

/-! EB14: lists whose items are known one by one, lists of new lists, sorted pairs. -/
namespace EB
open PySem PySem.Spec PyProof.Rows L2 Evl
def lp (Ps : List PV) : PV := ⟨fun H v => ∃ a xs, v = .ref a ∧ H a = some (.lst xs) ∧ AllP H xs Ps, fun e h => by
  obtain ⟨a, xs, h1, h2, h3⟩ := h
  exact ⟨a, xs, h1, e _ _ h2, h3.mono e⟩⟩
/-- a pair of ints that was made at run time -/
def tp2 (p : Int × Int) : PV := ⟨fun H v => ∃ t, v = .ref t ∧ H t = some (.tup [.int p.1, .int p.2]), fun e h => by
  obtain ⟨t, h1, h2⟩ := h
  exact ⟨t, h1, e _ _ h2⟩⟩
section
variable {K : PySem.W.Frag} {M : EC → Addr} {W : WX} {F1 H1 : Hp} {ps qs : Kn} {ts tu : TS} {te ta tb : TE} {t : TT} {tr : TA} {Os Os' : Ow} {R : MR} {D : Addr} {vs : List Nat}
theorem tp2_dv {p : Int × Int} {H : Hp} {v : V} (h : (tp2 p).p H v) : Dp K H v (pD p) := by
  obtain ⟨t, rfl, e⟩ := h
  exact .tup (st_of e) (.cons (.int _) (.cons (.int _) .nil))
theorem allP_dp {α : Type} {f : α → PV} {d : α → PyData} (hf : ∀ a (H : Hp) v, (f a).p H v → Dp K H v (d a)) {H : Hp} : ∀ {xs : List V} {l : List α}, AllP H xs (l.map f) → DpAll K H xs (l.map d)
  | _, [], h => by cases h; exact .nil
  | _, a :: r, h => by
    cases h with
    | cons h1 h2 => exact .cons (hf a H _ h1) (allP_dp hf h2)
theorem lp_dv {α : Type} {f : α → PV} {d : α → PyData} (hf : ∀ a (H : Hp) v, (f a).p H v → Dp K H v (d a)) {l : List α} {H : Hp} {v : V} (h : (lp (l.map f)).p H v) : Dp K H v (.list (l.map d)) := by
  obtain ⟨a, xs, rfl, e, al⟩ := h
  exact .lst (sq_of e) (allP_dp hf al)
theorem je_lpd {α : Type} {f : α → PV} {d : α → PyData} (hf : ∀ a (H : Hp) v, (f a).p H v → Dp K H v (d a)) {l : List α} (h : JV K M W te ps (lp (l.map f))) : JD K M W te ps (.list (l.map d)) := je_weak h fun H v p => lp_dv hf p
theorem je_tup2 {i j : Int} (h1 : JD K M W ta ps (.int i)) (h2 : JD K M W tb ps (.int j)) : JV K M W (tTup (tCons ta (tCons tb tNil))) ps (tp2 (i, j)) := fun σ F H Q fh S k =>
  ja_cons h1 (ja_cons h2 ja_nil) σ F H _ fh S fun vs F1 H1 e1 a => by
    obtain ⟨v, u, rfl, p, q⟩ := allP2 a
    rw [dp_int p, dp_int q]
    exact ⟨sz_of (show 2 ≤ 100000 by decide), fun p hp => k _ _ _ (e1.trans (Gr.new e1.fh hp)) ⟨p, rfl, upd_same⟩⟩
/-! ### walks over such lists -/
structure ItP (J : It) (F : Hp) (Ps : List PV) : Prop where
  stop : ∀ i H', Ex F H' → Ps.length ≤ i → J.stop i H'
  go : ∀ i H', Ex F H' → i < Ps.length → J.go i H'
  yld : ∀ i P F' H' x H2, Ex F F' → Ex F' H' → Ps[i]? = some P → J.yld i H' x H2 → ∃ F2, Gr F' H' F2 H2 ∧ P.p F2 x
def JIP (K : PySem.W.Frag) (M : EC → Addr) (W : WX) (wi : TI) (ps : Kn) (Ps : List PV) : Prop := ∀ σ F H R, Ex F H → Sl F σ ps → (∀ J F1 H1, Gr F H F1 H1 → ItP J F1 Ps → R J H1) → wi σ H R
theorem jip_list {Ps : List PV} (h : JV K M W te ps (lp Ps)) : JIP K M W (iList K te) ps Ps := fun σ F H R fh S k => h.go fh S fun v F1 H1 e p => by
  obtain ⟨a, xs, rfl, hx, al⟩ := p
  refine ⟨a, rfl, ⟨xs, sq_of (e.fh _ _ hx)⟩, k _ F1 H1 e ⟨fun i H' e2 h => ⟨xs, sq_of (e2 _ _ hx), by rw [al.length]; exact h⟩, fun i H' e2 h => ?_, fun i P F' H' x H2 e2 fh2 hi y => ?_⟩⟩
  · have hl : i < xs.length := by rw [al.length]; exact h
    exact ⟨xs, xs[i], sq_of (e2 _ _ hx), List.getElem?_eq_getElem hl⟩
  · obtain ⟨rfl, y⟩ := y
    obtain ⟨v, hv, pv⟩ := al.get hi
    have := y xs (sq_of ((e2.trans fh2) _ _ hx))
    rw [hv] at this
    cases this
    exact ⟨F', Gr.refl fh2, P.mn e2 pv⟩
/-- [e for x in xs], items known one by one -/
theorem je_lcP {wi : TI} {g : TG} {Ps : List PV} (e : Nat → PyData) {W' : WX} (hi : JIP K M W wi ps Ps) (hlen : Ps.length ≤ 90000)
    (hs : ∀ i P, Ps[i]? = some P → ∃ qs, JG vs g (wipeK ps vs) P qs ∧ JT K M W' t qs true ∧ JD K M W' te qs (e i)) : JD K M W (tLc wi g t te vs) ps (.list ((List.range Ps.length).map e)) := fun σ F H Q fh S k => hi σ F H _ fh S fun J F1 H1 e1 it D hD => by
  refine ⟨fun i n H' => n = Ps.length - i ∧ i ≤ Ps.length ∧ ∃ F', Acc K D F1 H1 F' H' ((List.range i).map e), ⟨Ps.length, by omega, Nat.zero_le _, F1, Acc.start e1.fh hD⟩, ?_⟩
  rintro i n H' ⟨rfl, him, F2, A⟩
  by_cases hlt : i < Ps.length
  · have hx : Ps[i]? = some Ps[i] := List.getElem?_eq_getElem hlt
    refine .inr ⟨it.go i H' (A.gr.ff.trans A.gr.fh) hlt, fun H3 => ∃ F3, Acc K D F1 H1 F3 H3 ((List.range (i + 1)).map e), fun H3 q => ⟨Ps.length - (i + 1), by omega, rfl, hlt, q⟩, fun x H3 y => ?_⟩
    obtain ⟨F3, e3, dx⟩ := it.yld i _ F2 H' x H3 A.gr.ff A.gr.fh hx y
    have A3 := A.step e3
    obtain ⟨qs, hg, ht, he⟩ := hs i _ hx
    refine hg x (wipe σ vs) F3 H3 _ e3.fh ((S.mono (e1.ff.trans A3.gr.ff)).wipe vs) dx fun σ4 F4 H4 e4 S4 u4 => ⟨wipe_upto (upto_wipe.trans u4), ht σ4 F4 H4 _ e4.fh S4 fun F5 H5 e5 => ?_⟩
    have A5 := (A3.step e4).step e5
    show te σ4 H5 _
    refine he.go e5.fh (S4.mono e5.ff) fun v F6 H6 e6 p => ?_
    have A6 := A5.step e6
    obtain ⟨acc, h6, _⟩ := A6.at_
    refine ⟨acc, h6, sz_lt (by rw [A6.len h6, List.length_map, List.length_range]; omega), F6, ?_⟩
    rw [List.range_succ, List.map_append]
    exact A6.app hD h6 p
  · have hem : i = Ps.length := by omega
    subst hem
    obtain ⟨F3, g3, d3, _⟩ := A.done hD
    exact .inl ⟨it.stop _ H' (A.gr.ff.trans A.gr.fh) (Nat.le_refl _), k _ F3 H' (e1.trans g3) d3⟩
/-! ### sorted pairs -/
def lexLt (p q : Int × Int) : Prop := p.1 < q.1 ∨ (p.1 = q.1 ∧ p.2 < q.2)
theorem sort_one : ∀ {xs ys : List (Int × Int)}, xs.Perm ys → xs.Pairwise (fun x y => ¬ lexLt y x) → ys.Pairwise lexLt → xs = ys
  | [], ys, h, _, _ => by rw [List.nil_perm.mp h]
  | x :: xs, [], h, _, _ => absurd h.length_eq (by simp)
  | x :: xs, y :: ys, h, h1, h2 => by
    obtain ⟨a1, a2⟩ := List.pairwise_cons.mp h1
    obtain ⟨b1, b2⟩ := List.pairwise_cons.mp h2
    have e : x = y := by
      have m1 : x ∈ y :: ys := h.mem_iff.mp List.mem_cons_self
      have m2 : y ∈ x :: xs := h.mem_iff.mpr List.mem_cons_self
      rcases List.mem_cons.mp m1 with z | z
      · exact z
      · rcases List.mem_cons.mp m2 with w | w
        · exact w.symm
        · exact absurd (b1 x z) (a1 y w)
    subst e
    rw [sort_one (List.Perm.cons_inv h) a2 b2]
def kP (H : Hp) (v : V) : Int × Int := match v with
  | .ref t => match H t with
    | some (.tup [.int i, .int j]) => (i, j)
    | _ => (0, 0)
  | _ => (0, 0)
theorem kP_tp2 {F H : Hp} (fh : Ex F H) {p : Int × Int} {v : V} (h : (tp2 p).p F v) : (∃ t, v = .ref t ∧ H t = some (.tup [.int (kP H v).1, .int (kP H v).2])) ∧ kP H v = p := by
  obtain ⟨t, rfl, e⟩ := h
  have e2 := fh _ _ e
  have : kP H (.ref t) = p := by
    unfold kP
    dsimp only
    rw [e2]
  exact ⟨⟨t, rfl, by rw [this]; exact e2⟩, this⟩
theorem kP_all {F H : Hp} (fh : Ex F H) : ∀ {xs : List V} {l : List (Int × Int)}, AllP F xs (l.map tp2) → xs.map (kP H) = l ∧ ∀ x ∈ xs, (∃ t, x = .ref t ∧ H t = some (.tup [.int (kP H x).1, .int (kP H x).2])) ∧ (tp2 (kP H x)).p F x
  | _, [], h => by cases h; exact ⟨rfl, fun x h => by cases h⟩
  | _, a :: r, h => by
    cases h with
    | cons h1 h2 =>
      obtain ⟨i1, i2⟩ := kP_all fh h2
      obtain ⟨k1, k2⟩ := kP_tp2 fh h1
      refine ⟨by rw [List.map_cons, i1, k2], fun x hx => ?_⟩
      rcases List.mem_cons.mp hx with rfl | z
      · exact ⟨k1, by rw [k2]; exact h1⟩
      · exact i2 x z
theorem dpAll_kP {F H : Hp} : ∀ {xs : List V}, (∀ x ∈ xs, (tp2 (kP H x)).p F x) → DpAll K F xs ((xs.map (kP H)).map pD)
  | [], _ => .nil
  | x :: r, h => .cons (tp2_dv (h x List.mem_cons_self)) (dpAll_kP fun y hy => h y (List.mem_cons_of_mem _ hy))
theorem je_sortP {xs ys : List (Int × Int)} (h : JV K M W te ps (lp (xs.map tp2))) (hp : xs.Perm ys) (hs : ys.Pairwise lexLt) : JD K M W (tCB (rSortedPO K) (tCons te tNil)) ps (.list (ys.map pD)) := je_cb (ja_cons h ja_nil) fun vs F H fh b Q k => by
  obtain ⟨v, rfl, p⟩ := allP1 b
  obtain ⟨a, acc, rfl, ha, al⟩ := p
  obtain ⟨e1, e2⟩ := kP_all fh al
  refine ⟨a, acc, kP H, rfl, sq_of (fh _ _ ha), fun x hx => (e2 x hx).1, fun zs q h1 h2 hq => ?_⟩
  have key : zs.map (kP H) = ys := by
    refine sort_one ((h2.perm.map (kP H)).trans (by rw [e1]; exact hp)) ?_ hs
    rw [List.pairwise_map]
    refine List.Pairwise.imp (fun {x y} (z : SrtO.lexB (kP H y) (kP H x) = false) w => ?_) h1
    have := SrtO.lexB_no.mp z
    unfold lexLt at w
    omega
  refine k _ _ _ (Gr.new fh hq) (.lst (sq_of upd_same) ?_)
  rw [← key]
  exact dpAll_mono (Gr.new (o := .lst zs) fh hq).ff (dpAll_kP fun x hx => (e2 x (h2.perm.mem_iff.mp hx)).2)
/-! ### a list of new lists -/
theorem AccM.perm {F H : Hp} (h : Os.Perm Os') (a : AccM Os F1 H1 F H) : AccM Os' F1 H1 F H := ⟨a.gr, (h.map _).nodup_iff.mp a.nd, fun p hp => a.fr p (h.mem_iff.mpr hp), fun p hp => a.off p (h.mem_iff.mpr hp), fun p hp => a.at_ p (h.mem_iff.mpr hp)⟩
abbrev emp (Ds : List Addr) : Ow := Ds.map fun a => (a, ([] : List PV))
abbrev refs (Ds : List Addr) : List PV := Ds.map fun a => xv (.ref a)
theorem jm_lcNew {wi : TI} {g : TG} {i : Nat} (xs : List PyData) (hi : JI K M W wi ps xs) (hlen : xs.length ≤ 90000) (hg : ∀ d ∈ xs, ∃ qs, JG vs g (wipeK ps vs) (dv K d) qs)
    (hu : ∀ (D : Addr) (Ds : List Addr), Ds.length = xs.length → JM K F1 H1 tu (ps.set i (some (xv (.ref D)))) ((D, refs Ds) :: (emp Ds ++ Os)) R) : JM K F1 H1 (tSeq (tAsg (tLc wi g tYes (tLst tNil) vs) (gName i)) tu) ps Os R := fun Dn σ F H A S k => hi σ F H _ A.gr.fh S fun J F2 H2 e1 it D hD => by
  refine ⟨fun i n H' => n = xs.length - i ∧ i ≤ xs.length ∧ ∃ (Ds : List Addr) (F' : Hp), Ds.length = i ∧ Ex F2 F' ∧ AccM ((D, refs Ds) :: (emp Ds ++ Os)) F1 H1 F' H', ⟨xs.length, by omega, Nat.zero_le _, [], F2, rfl, Ex.refl _, (A.step e1).new hD .nil⟩, ?_⟩
  rintro i n H' ⟨rfl, him, Ds, F3, hDs, e3, A3⟩
  by_cases hlt : i < xs.length
  · have hx : xs[i]? = some xs[i] := List.getElem?_eq_getElem hlt
    refine .inr ⟨it.go i H' (e3.trans A3.gr.fh) hlt, fun H3 => ∃ (Ds : List Addr) (F' : Hp), Ds.length = i + 1 ∧ Ex F2 F' ∧ AccM ((D, refs Ds) :: (emp Ds ++ Os)) F1 H1 F' H3, fun H3 q => ⟨xs.length - (i + 1), by omega, rfl, hlt, q⟩, fun x H3 y => ?_⟩
    obtain ⟨F4, e4, dx⟩ := it.yld i _ F3 H' x H3 e3 A3.gr.fh hx y
    have A4 := A3.step e4
    obtain ⟨qs, hgx⟩ := hg _ (List.getElem_mem hlt)
    refine hgx x (wipe σ vs) F4 H3 _ e4.fh ((S.mono ((e1.ff.trans e3).trans e4.ff)).wipe vs) dx fun σ5 F5' H5' e5' S5 u5 => ⟨wipe_upto (upto_wipe.trans u5), (jt_yes (K := K) (M := M) (W := W)) σ5 F5' H5' _ e5'.fh S5 fun F5 H5 e6 => ?_⟩
    have e5 := e5'.trans e6
    have A5 := A4.step e5
    rw [if_pos rfl]
    refine ⟨sz_of (by decide), fun p hp => ?_⟩
    have A6 := A5.new (items := []) (acc := []) hp .nil
    have A7 : AccM ((D, refs Ds) :: (emp (Ds ++ [p]) ++ Os)) F1 H1 F5 (upd H5 p (.lst [])) := by
      refine A6.perm ?_
      refine (List.Perm.swap _ _ _).trans (List.Perm.cons _ ?_)
      show ((p, []) :: (emp Ds ++ Os)).Perm (emp (Ds ++ [p]) ++ Os)
      unfold emp
      rw [List.map_append, List.append_assoc]
      exact List.perm_middle.symm
    obtain ⟨acc, h7, a7⟩ := A7.at_ (D, refs Ds) List.mem_cons_self
    have lacc : acc.length = Ds.length := by
      have := a7.length
      unfold refs at this
      rwa [List.length_map] at this
    refine ⟨acc, h7, sz_lt (by omega), Ds ++ [p], F5, by rw [List.length_append, hDs]; rfl, (e3.trans e4.ff).trans e5.ff, ?_⟩
    have A8 := A7.set (i := 0) (D := D) (items := refs Ds) (items' := refs (Ds ++ [p])) (acc := acc ++ [.ref p]) rfl (by
      unfold refs
      rw [List.map_append]
      exact a7.app (.cons rfl .nil))
    exact A8
  · have hem : i = xs.length := by omega
    subst hem
    exact .inl ⟨it.stop _ H' (e3.trans A3.gr.fh) (Nat.le_refl _), hu D Ds hDs Dn _ F3 H' A3 ((S.mono (e1.ff.trans e3)).set _ rfl) (MW.step (e1.ff.trans e3) k)⟩
/-- all of them are told from here on -/
theorem jm_tellAll {d : PyData} (hq : ∀ F' σ, (∀ p ∈ Os, ∃ acc, F' p.1 = some (.lst acc) ∧ AllP F' acc p.2) → Sl F' σ ps → Sl F' σ qs) (hl : ps.length = qs.length) (hu : JS K M W tu qs (.rt (dv K d))) : JM K F1 H1 tu ps Os (.rt d) := fun Dn σ F H A S k => by
  classical
  let F' : Hp := fun a => if a ∈ Os.map (·.1) then H a else F a
  have ff : Ex F F' := fun a o e => by
    by_cases z : a ∈ Os.map (·.1)
    · obtain ⟨p, hp, rfl⟩ := List.mem_map.mp z
      rw [A.off p hp] at e
      cases e
    · show (if a ∈ Os.map (·.1) then H a else F a) = some o
      rw [if_neg z]
      exact e
  have fh : Ex F' H := fun a o e => by
    by_cases z : a ∈ Os.map (·.1)
    · have e2 : (if a ∈ Os.map (·.1) then H a else F a) = some o := e
      rw [if_pos z] at e2
      exact e2
    · have e2 : (if a ∈ Os.map (·.1) then H a else F a) = some o := e
      rw [if_neg z] at e2
      exact A.gr.fh _ _ e2
  have g : Gr F1 H1 F' H := ⟨A.gr.ff.trans ff, A.gr.hh, fh, fun a ha hf => by
    by_cases z : a ∈ Os.map (·.1)
    · obtain ⟨p, hp, rfl⟩ := List.mem_map.mp z
      exact absurd (A.fr p hp) ha
    · show (if a ∈ Os.map (·.1) then H a else F a) = none
      rw [if_neg z]
      exact A.gr.nw a ha hf⟩
  have S' : Sl F' σ qs := hq F' σ (fun p hp => by
    obtain ⟨acc, e, al⟩ := A.at_ p hp
    refine ⟨acc, ?_, al.mono ff⟩
    show (if p.1 ∈ Os.map (·.1) then H p.1 else F p.1) = _
    rw [if_pos (List.mem_map.mpr ⟨p, hp, rfl⟩)]
    exact e) (S.mono ff)
  exact hu Dn σ F' H fh S' fun v F2 H2 g2 p => k v F2 H2 (g.trans g2) p
/-- got.reverse() of a list of one's own -/
theorem jl_rev {i : Nat} {ds : List PyData} (hi : ps[i]? = some (some (xv (.ref D)))) (hD : H1 D = none) : JL K M W D F1 H1 (tDrop (tBM0 K "list" rReverse (tVar i))) ps ds (.nx ps ds.reverse) := fun Dn σ F H A S k => by
  obtain ⟨acc, h0, hd⟩ := A.at_
  exact ⟨.ref D, sl_at S hi, .inl ⟨rfl, acc, sq_of h0⟩, D, acc, rfl, rfl, h0, k σ F _ ⟨gr_mut A.gr hD A.off, A.off, _, upd_same, dpRev hd⟩ (Ex.refl _) S⟩
theorem je_isNone {d : PyData} (ha : JD K M W ta ps d) (hn : d ≠ .none) : JD K M W (tOp (fun x y H Q => y = .non ∧ Q (.bl (decide (x = .non))) H) ta (tC .non)) ps (.bool false) := fun σ F H Q fh S k => ha.go fh S fun v F' H' g p => by
  have e : decide (v = V.non) = false := decide_eq_false fun z => by
    subst z
    cases p
    exact hn rfl
  refine ⟨rfl, ?_⟩
  rw [e]
  exact k _ F' H' g (.bl false)
/-- list(range(n)) -/
theorem je_listRg1 {n : Int} (h : JD K M W te ps (.int n)) (ok : RgOk 0 n) : JV K M W (tLstRg (tRg1 te)) ps (lv K ((rg 0 n.toNat).map .int)) := fun σ F H Q fh S k => h.go fh S fun x F1 H1 e1 p => ⟨n, dp_int p, ok, fun l hl => k _ _ _ (e1.trans (Gr.new e1.fh hl)) ⟨l, _, rfl, upd_same, by
  have := rg_all (K := K) (F := upd F1 l (.lst (rgV 0 n))) 0 n
  rw [Int.sub_zero] at this
  exact this⟩⟩
end
end EB

/-! EB15: o[i] by an own __getitem__ (which may raise), x in o by an own __contains__. -/
namespace EB
open PySem PySem.Spec PyProof.Rows L2 Evl
section
variable {X : Cx} {CX : CXT} {n : Nat} {C f : Addr} {fd : FuncData} {ps : List Str} {sp : Sp}
theorem own_runS {A1 : Around} {pins : List (Addr × Obj)} {σ : L2.St} {H : Hp} {s : Shared} {Q : VK} {E : XK} {us : List Value} {vs : List V} (sb : Sub X n A1) (F : FnOk X.prog X.w X.K X.mg X.base CX n f fd ps sp) (hb : Binds X.K fd ps []) (hx : PassesAt CX X σ E)
    (I : Inv X pins σ H s) (r : Vals vs us) (h : sp vs H Q E) : wpAny (model X.prog X.w) A1 (call (.ref f) us) (EP X pins σ Q) X.xe s := by
  have e0 : Env0 X.prog X.w X.K X.mg X.base A1 X.stack s H := by
    have e := I.env0
    exact ⟨by rw [sb.fr]; exact e.frames, e.mod, e.bs, e.bsz, e.funs, e.frf, e.hok, e.bare⟩
  have hl : us.length = ps.length := by rw [← r.length]; exact F.len _ _ _ _ h
  have b := hb s us I.kIn (by rw [List.append_nil]; exact hl)
  rw [List.append_nil] at b
  refine wpAny_call (codeAny_mono (F.run A1 X.stack s H ⟨us, []⟩ us vs Q E sb.room e0 b r h) fun r s' hq => ?_)
  cases r with
  | error e => exact hx pins H s e s' I hq
  | ok fl =>
    cases fl with
    | ret u => exact I.after hq
    | next => exact False.elim hq
    | brk => exact False.elim hq
    | cont => exact False.elim hq
def tIxO (C : Addr) (sp : Sp) (E : L2.St → XK) (ta tb : TE) : TE := fun σ H Q => tOp (fun x y H Q => ∃ a dx fs, x = V.ref a ∧ H a = some (.ins C dx fs) ∧ sp [.ref a, y] H Q (E σ)) ta tb σ H Q
theorem pe_ixOwn {E : L2.St → XK} {o b : Expr} {ta tb : TE} {pos : Pos} (F : FnOk X.prog X.w X.K X.mg X.base CX n f fd ps sp) (hr : Room (n + 1) X.A) (hs : PySem.W.findIn X.K (.ref C) "__getitem__" = some (some (.ref f))) (hk : PySem.W.fnIn X.K f = true) (hf : PySem.W.isFn X.K (.ref f) = true) (hb : Binds X.K fd ps []) (hx : ∀ σ, PassesAt CX X σ (E σ))
    (ha : PE X o ta) (hbb : PE X b tb) (hsl : ∀ x i, subscripted b true (.ref x) i = runValue (.builtin "lifetime.subscript" ⟨[.ref x, i], []⟩) := by intro _ _; with_unfolding_all rfl) : PE X (.Subscript o b pos) (tIxO C sp E ta tb) := by
  refine ⟨fun pins s σ H Q I h => Subscript_ (binT ha hbb I h fun v u s2 x y H2 I2 rx ry q => ?_)⟩
  obtain ⟨a, dx, fs, rfl, ea, hsp⟩ := q
  cases rx
  obtain ⟨mA, J, _⟩ := ins_get I2.hok ea
  obtain ⟨od, J, _⟩ := J.look
  obtain ⟨m, hF⟩ := I2.fr
  exact PySem.W.sub_K hF I2.ok.mod.kin J hs hk hf (own_runS (A1 := X.A.in1) (Sub.in1 ⟨hr, rfl⟩) F hb (hx σ) I2 (show Vals [V.ref a, y] [Value.ref a, u] from .cons rfl (.cons ry .nil)) hsp) (hsl a u)
/-- x in o, o an instance with an own __contains__ -/
def rInO (C : Addr) (sp : Sp) (E : XK) : R2 := fun x y H Q => ∃ a dx fs, y = V.ref a ∧ H a = some (.ins C dx fs) ∧ sp [.ref a, x] H (fun v H' => ∃ b, v = .bl b ∧ Q (.bl b) H') E
theorem op_inOwn {E : XK} (F : FnOk X.prog X.w X.K X.mg X.base CX n f fd ps sp) (hr : Room n X.A) (hs : PySem.W.findIn X.K (.ref C) "__contains__" = some (some (.ref f))) (hf : PySem.W.isFn X.K (.ref f) = true) (hb : Binds X.K fd ps []) (hx : Passes CX X E) : OpR X (compareOp .In) (rInO C sp E) := by
  intro pins s σ H x y v u Q I rx ry h
  obtain ⟨a, dx, fs, rfl, ea, hsp⟩ := h
  cases ry
  obtain ⟨mA, J, _⟩ := ins_get I.hok ea
  obtain ⟨od, J, _⟩ := J.look
  obtain ⟨m, hF⟩ := I.fr
  refine PySem.W.in_K hF I.ok.mod.kin J hs hf (thn (own_run (A1 := X.A) ⟨hr, rfl⟩ F hb hx I (show Vals [V.ref a, x] [Value.ref a, v] from .cons rfl (.cons rx .nil)) hsp) fun r s' hv => ?_)
  obtain ⟨z, H', I', rz, b, rfl, q⟩ := hv
  obtain ⟨t, rfl⟩ := rz
  exact wpAny_pure ⟨.bl b, H', I', rfl, q⟩
end
section
variable {K : PySem.W.Frag} {M : EC → Addr} {W : WX} {ps : Kn} {te ta tb : TE}
theorem je_ixO {α : Type} {args : α → List PV} {dom : α → Prop} {out : α → Out} {C : Addr} {f : Str} {d : PyData} {P : PV} (a : α) (hs : JV K M W ta ps (ob1 K C f d)) (hi : JV K M W tb ps P) (ea : args a = [ob1 K C f d, P]) (hd : dom a) :
    JE K M W (tIxO C (Prm K M args dom out) (WE W) ta tb) ps (out a) := fun σ F H Q fh S k => hs.go fh S fun v F1 H1 e1 p => hi.go e1.fh (S.mono e1.ff) fun u F2 H2 e2 q => by
  obtain ⟨b, dx, w, rfl, hb, hdp⟩ := id p
  exact ⟨b, dx, _, rfl, e2.fh _ _ (e2.ff _ _ hb), a, F2, e2.fh, by rw [ea]; exact .cons (PV.mn _ e2.ff p) (.cons q .nil), hd, Then.step (e1.trans e2) k⟩
theorem je_inO {α : Type} {args : α → List PV} {dom : α → Prop} {out : α → Out} {C : Addr} {f : Str} {d : PyData} {P : PV} {c : Bool} (a : α) (hi : JV K M W ta ps P) (hs : JV K M W tb ps (ob1 K C f d)) (ea : args a = [ob1 K C f d, P]) (hd : dom a) (ho : out a = .ok (dv K (.bool c))) :
    JD K M W (tOp (rInO C (Prm K M args dom out) fun _ _ _ => False) ta tb) ps (.bool c) := je_op hi hs fun x y F H fh p q Q k => by
  obtain ⟨b, dx, w, rfl, hb, hdp⟩ := id q
  refine ⟨b, dx, _, rfl, fh _ _ hb, a, F, fh, by rw [ea]; exact .cons q (.cons p .nil), hd, ?_⟩
  rw [ho]
  intro v F' H' g p2
  exact ⟨c, dp_bl p2, k _ F' H' g (.bl c)⟩
end
end EB

/-! EB16: defs that end with a list just made, or with an error; own lists told to other names. -/
namespace EB
open PySem PySem.Spec PyProof.Rows L2 Evl
def QW (K : PySem.W.Frag) (M : EC → Addr) (W : WX) (n : Nat) (F H : Hp) (rt : VK) : Except Er (List PyData) → Prop
  | .ok ds => ∀ D F' H', Acc K D F H F' H' ds → H D = none → rt (.ref D) H'
  | .error e => ∀ d u σ' F' H', Gr F H F' H' → H d = none → H' d = some (.xd [(e.c.fld, u)]) → Dp K F' u e.val → σ'.length = n → W (.ref (M e.c)) (some d) σ' H'
theorem QW.step {K : PySem.W.Frag} {M : EC → Addr} {W : WX} {n : Nat} {F H F1 H1 : Hp} {rt : VK} {o : Except Er (List PyData)} (g : Gr F H F1 H1) (h : QW K M W n F H rt o) : QW K M W n F1 H1 rt o := by
  cases o with
  | ok ds => exact fun D F' H' A hD => h D F' H' (A.pre g) (fresh_back g.hh hD)
  | error e => exact fun d u σ' F' H' e2 hn a b l => h d u σ' F' H' (g.trans e2) (fresh_back g.hh hn) a b l
def JSN (K : PySem.W.Frag) (M : EC → Addr) (W : WX) (ts : TS) (ps : Kn) (o : Except Er (List PyData)) : Prop := ∀ Dn σ F H, Ex F H → Sl F σ ps → QW K M W ps.length F H Dn.rt o → ts Dn σ H
def JQ (K : PySem.W.Frag) (M : EC → Addr) (W : WX) (D : Addr) (F1 H1 : Hp) (n : Nat) (ts : TS) (ps : Kn) (ds : List PyData) (o : Except Er (List PyData)) : Prop := ∀ Dn σ F H, Acc K D F1 H1 F H ds → Sl F σ ps → QW K M W n F1 H1 Dn.rt o → ts Dn σ H
section
variable {K : PySem.W.Frag} {M : EC → Addr} {W : WX} {ps qs rs : Kn} {ts tu tv : TS} {ta tb te : TE} {tr : TA} {t : TT} {ds es : List PyData} {o : Except Er (List PyData)} {e : Er}
theorem jsn_ret (h : JN K te ps ds) : JSN K M W (tRet te) ps (.ok ds) := fun Dn σ F H fh S k => h σ F H _ fh S k
theorem jsn_seq (h1 : JS K M W ts ps (.nx qs)) (h2 : JSN K M W tu qs o) (hq : qs.length = ps.length := by first | rfl | (simp; done)) : JSN K M W (tSeq ts tu) ps o := fun Dn σ F H fh S k =>
  h1 { Dn with nx := tu Dn } σ F H fh S fun σ' F' H' g s => h2 Dn σ' F' H' g.fh s (by rw [hq]; exact QW.step g k)
theorem jsn_er (h : JS K M W ts ps (.er e)) : JSN K M W ts ps (.error e) := fun Dn σ F H fh S k => h Dn σ F H fh S k
theorem jsn_erS (h : JS K M W ts ps (.er e)) : JSN K M W (tSeq ts tu) ps (.error e) := jsn_er (js_er h)
theorem jsn_ifT (h : JT K M W t ps true) (k : JSN K M W ts ps o) : JSN K M W (tSeq (tIfS t ts tv) tu) ps o := fun Dn σ F H fh S kk =>
  h σ F H _ fh S fun F1 H1 g => by
    show (if true = true then _ else _)
    rw [if_pos rfl]
    exact k { Dn with nx := tu Dn } σ F1 H1 g.fh (S.mono g.ff) (QW.step g kk)
theorem jsn_ifF (h : JT K M W t ps false) (k : JSN K M W tu ps o) : JSN K M W (tSeq (tIfS t ts tNext) tu) ps o := fun Dn σ F H fh S kk =>
  h σ F H _ fh S fun F1 H1 g => by
    show (if false = true then _ else _)
    rw [if_neg (by decide)]
    exact k Dn σ F1 H1 g.fh (S.mono g.ff) (QW.step g kk)
theorem jsn_is {o' : Except Er (List PyData)} (h : JSN K M W ts ps o) (q : o = o') : JSN K M W ts ps o' := q ▸ h
theorem jsn_own {i : Nat} (he : JN K te ps ds) (h : ∀ D F1 H1, H1 D = none → JQ K M W D F1 H1 ps.length tu (ps.set i (some (xv (.ref D)))) ds o) : JSN K M W (tSeq (tAsg te (gName i)) tu) ps o := fun Dn σ F H fh S k =>
  he σ F H _ fh S fun D F1 H1 A hD => h D F H hD Dn _ F1 H1 A ((S.mono A.gr.ff).set i rfl) k
theorem jn_lst (h : JA K M W tr ps (ds.map (dv K))) (hl : ds.length ≤ 100000 := by first | decide | omega | (simp; done)) : JN K (tLst tr) ps ds := fun σ F H Q fh S k =>
  h σ F H _ fh S fun vs F1 H1 e1 a => ⟨sz_of (by rw [dpLength a.dv]; exact hl), fun p hp => k p F1 _ ⟨gr_mut e1 (fresh_back e1.hh hp) (fresh_back e1.fh hp), fresh_back e1.fh hp, vs, upd_same, a.dv⟩ (fresh_back e1.hh hp)⟩
theorem jn_cat (ha : JV K M W ta ps (lv K ds)) (hb : JV K M W tb ps (lv K es)) (hl : ds.length + es.length ≤ 100000) : JN K (tOp rCat ta tb) ps (ds ++ es) := fun σ F H Q fh S k =>
  ha.go fh S fun x F1 H1 e1 p => hb.go e1.fh (S.mono e1.ff) fun y F2 H2 e2 q => by
    obtain ⟨a, xs, rfl, hx, hd⟩ := (lv K ds).mn e2.ff p
    obtain ⟨b, ys, rfl, hy, he⟩ := q
    have g := e1.trans e2
    exact ⟨a, b, xs, ys, rfl, rfl, e2.fh _ _ hx, e2.fh _ _ hy, sz_of (by rw [dpLength hd, dpLength he]; exact hl), fun p hp => k p F2 _ ⟨gr_mut g (fresh_back g.hh hp) (fresh_back g.fh hp), fresh_back g.fh hp, _, upd_same, dpApp hd he⟩ (fresh_back g.hh hp)⟩
theorem jn_lv (h : JN K te ps ds) : JV K M W te ps (lv K ds) := fun σ F H Q fh S k => h σ F H Q fh S fun D F' H' A hD => by
  obtain ⟨acc, h0, hd⟩ := A.at_
  exact k _ _ H' (gr_in A.gr hD A.off h0) ⟨D, acc, rfl, upd_same, dpAll_mono (Ex.new A.off) hd⟩
theorem jn_sl {tl th : TO} {lo hi : Option Int} (h : JD K M W te ps (.list ds)) (h1 : JO K M W tl ps lo) (h2 : JO K M W th ps hi) : JN K (tSl (rSlL K) te tl th) ps (cutD ds lo hi) := fun σ F H Q fh S k =>
  h.go fh S fun v F1 H1 e1 p => h1 σ F1 H1 _ e1.fh (S.mono e1.ff) fun F2 H2 e2 => h2 σ F2 H2 _ e2.fh ((S.mono e1.ff).mono e2.ff) fun F3 H3 e3 => by
    obtain ⟨a, xs, rfl, hs, hd⟩ := dp_lst (dp_mono (e2.ff.trans e3.ff) p)
    have g := (e1.trans e2).trans e3
    exact ⟨a, xs, rfl, ex_l e3.fh hs, fun q hq => k q F3 _ ⟨gr_mut g (fresh_back g.hh hq) (fresh_back g.fh hq), fresh_back g.fh hq, _, upd_same, cut_all hd lo hi⟩ (fresh_back g.hh hq)⟩
/-! ### while a list of one's own is held -/
variable {D : Addr} {F1 H1 : Hp} {n : Nat}
theorem jq_seq (h1 : JL K M W D F1 H1 ts ps ds (.nx qs es)) (h2 : JQ K M W D F1 H1 n tu qs es o) : JQ K M W D F1 H1 n (tSeq ts tu) ps ds o := fun Dn σ F H A S k =>
  h1 { Dn with nx := tu Dn } σ F H A S fun σ' F' H' A' e S' => h2 Dn σ' F' H' A' S' k
theorem jq_ret {i : Nat} (hi : ps[i]? = some (some (xv (.ref D)))) (hD : H1 D = none) : JQ K M W D F1 H1 n (tRet (tVar i)) ps ds (.ok ds) := fun Dn σ F H A S k => ⟨.ref D, sl_at S hi, k D F H A hD⟩
theorem jq_is {o' : Except Er (List PyData)} (h : JQ K M W D F1 H1 n ts ps ds o) (q : o = o') : JQ K M W D F1 H1 n ts ps ds o' := q ▸ h
theorem jq_retSl {i : Nat} {tl th : TO} {lo hi : Option Int} (hi_ : ps[i]? = some (some (xv (.ref D)))) (h1 : JO K M W tl ps lo) (h2 : JO K M W th ps hi) : JQ K M W D F1 H1 n (tRet (tSl (rSlL K) (tVar i) tl th)) ps ds (.ok (cutD ds lo hi)) := fun Dn σ F H A S k =>
  ⟨.ref D, sl_at S hi_, h1 σ F H _ A.gr.fh S fun F2 H2 e2 => h2 σ F2 H2 _ e2.fh (S.mono e2.ff) fun F3 H3 e3 => by
    have A3 := (A.step e2).step e3
    obtain ⟨acc, h3, hd⟩ := A3.at_
    exact ⟨D, acc, rfl, sq_of h3, fun q hq => k q F3 _ ⟨gr_mut A3.gr (fresh_back A3.gr.hh hq) (fresh_back A3.gr.fh hq), fresh_back A3.gr.fh hq, _, upd_same, cut_all hd lo hi⟩ (fresh_back A3.gr.hh hq)⟩⟩
/-- a test that reads the list of one's own, and an error behind it -/
theorem jq_ifRE {i : Nat} (hi : ps[i]? = some (some (xv (.ref D)))) (h : JT K M W t (ps.set i (some (dv K (.list ds)))) true) (h1 : JS K M W ts ps (.er e)) (hn : ps.length = n) : JQ K M W D F1 H1 n (tSeq (tIfS t ts tv) tu) ps ds (.error e) := fun Dn σ F H A S k => by
  obtain ⟨F0, x0, x1, S0, _⟩ := acc_told A S hi
  refine h σ F0 H _ x1 S0 fun F' H' g => ?_
  have A' : Acc K D F1 H1 F H' ds := by
    obtain ⟨acc, hh, hd⟩ := A.at_
    exact ⟨⟨A.gr.ff, A.gr.hh.trans g.hh, A.gr.fh.trans g.hh, A.gr.nw⟩, A.off, acc, g.hh _ _ hh, hd⟩
  show (if true = true then _ else _)
  rw [if_pos rfl]
  refine h1 { Dn with nx := tu Dn } σ F H' A'.gr.fh S ?_
  rw [hn]
  exact fun d u σ' F' H' g2 hn a b l => k d u σ' F' H' (A'.gr.trans g2) (fresh_back A'.gr.hh hn) a b l
/-- xs.append(e) where e is an int that may be read off xs itself -/
theorem jl_appI {i : Nat} {v : Int} (hi : ps[i]? = some (some (xv (.ref D)))) (hD : H1 D = none) (h : JD K M W te (ps.set i (some (dv K (.list ds)))) (.int v)) (hl : ds.length < 90000) : JL K M W D F1 H1 (tDrop (tBM K "list" rAppend (tVar i) (tCons te tNil))) ps ds (.nx ps (ds ++ [.int v])) := fun Dn σ F H A S k => by
  obtain ⟨acc0, h00, hd0⟩ := A.at_
  obtain ⟨F0, x0, x1, S0, _⟩ := acc_told A S hi
  refine ⟨.ref D, sl_at S hi, (.inl ⟨rfl, acc0, sq_of h00⟩), h.go x1 S0 fun x F2 H2 g p => ?_⟩
  rw [dp_int p]
  have A2 : Acc K D F1 H1 F H2 ds := ⟨⟨A.gr.ff, A.gr.hh.trans g.hh, A.gr.fh.trans g.hh, A.gr.nw⟩, A.off, acc0, g.hh _ _ h00, hd0⟩
  obtain ⟨acc, h2, hd⟩ := A2.at_
  exact ⟨D, acc, .int v, rfl, rfl, h2, sz_lt (by rw [A2.len h2]; omega), k σ F _ (A2.app hD h2 (.int v)) (Ex.refl _) S⟩
/-- a list of one's own within a block; at its end it is told under a name -/
theorem jl_scope {i j : Nat} (qs : Addr → Kn) (he : JN K te ps ds) (h : ∀ D F1 H1, H1 D = none → JL K M W D F1 H1 tu (ps.set i (some (xv (.ref D)))) ds (.nx (qs D) es)) (hj : ∀ D, (qs D)[j]? = some (some (xv (.ref D)))) (hw : ∀ D, Weak ((qs D).set j (some (lv K es))) rs) : JS K M W (tSeq (tAsg te (gName i)) tu) ps (.nx rs) := fun Dn σ F H fh S k =>
  he σ F H _ fh S fun D F1 H1 A hD => h D F H hD Dn _ F1 H1 A ((S.mono A.gr.ff).set i rfl) fun σ' F' H' A' e S' => by
    obtain ⟨acc, h0, hd⟩ := A'.at_
    have fo : Ex F' (upd F' D (.lst acc)) := Ex.new A'.off
    have S2 : Sl (upd F' D (.lst acc)) σ' ((qs D).set j (some (lv K es))) := by
      refine ⟨by rw [List.length_set]; exact S'.1, fun b P hb => ?_⟩
      by_cases z : b = j
      · subst z
        have hl : b < (qs D).length := (List.getElem?_eq_some_iff.mp (hj D)).1
        rw [List.getElem?_set_self hl] at hb
        cases hb
        exact ⟨_, sl_at S' (hj D), D, acc, rfl, upd_same, dpAll_mono fo hd⟩
      · rw [List.getElem?_set_ne (fun y => z y.symm)] at hb
        exact (S'.mono fo).2 b P hb
    exact k σ' _ H' (gr_in A'.gr hD A'.off h0) (S2.weak (hw D))
/-! ### an own list that a statement of some form gives to a name -/
def JAN (K : PySem.W.Frag) (M : EC → Addr) (W : WX) (ts : TS) (ps : Kn) (i : Nat) (ds : List PyData) : Prop := ∀ Dn σ F H, Ex F H → Sl F σ ps → (∀ D F' H', Acc K D F H F' H' ds → H D = none → Dn.nx (σ.set i (some (.ref D))) H') → ts Dn σ H
theorem jan_asg {i : Nat} (he : JN K te ps ds) : JAN K M W (tAsg te (gName i)) ps i ds := fun Dn σ F H fh S k => he σ F H _ fh S fun D F' H' A hD => k D F' H' A hD
theorem jan_ifT {i : Nat} (h : JT K M W t ps true) (k : JAN K M W ts ps i ds) : JAN K M W (tIfS t ts tu) ps i ds := fun Dn σ F H fh S kk => h σ F H _ fh S fun F1 H1 g => by
  show (if true = true then _ else _)
  rw [if_pos rfl]
  exact k Dn σ F1 H1 g.fh (S.mono g.ff) fun D F' H' A hD => kk D F' H' (A.pre g) (fresh_back g.hh hD)
theorem jan_ifF {i : Nat} (h : JT K M W t ps false) (k : JAN K M W tu ps i ds) : JAN K M W (tIfS t ts tu) ps i ds := fun Dn σ F H fh S kk => h σ F H _ fh S fun F1 H1 g => by
  show (if false = true then _ else _)
  rw [if_neg (by decide)]
  exact k Dn σ F1 H1 g.fh (S.mono g.ff) fun D F' H' A hD => kk D F' H' (A.pre g) (fresh_back g.hh hD)
theorem jan_try {tb : WX → TS} {i : Nat} {Wo : WX} {l : List (Value × Nat × (Addr → Value → Option Addr → TS))} {d : PyData} (hb : ∀ W', JAN K M W' (tb W') ps i ds) (h : ∀ D F1 H1, H1 D = none → JL K M W D F1 H1 tu (ps.set i (some (xv (.ref D)))) ds (.rt d)) : JS K M W (tSeq (fun D σ H => tb (wClauses K Wo D l) D σ H) tu) ps (.rt (dv K d)) := fun Dn σ F H fh S k =>
  hb _ { Dn with nx := tu Dn } σ F H fh S fun D F1 H1 A hD => h D F H hD Dn _ F1 H1 A ((S.mono A.gr.ff).set i rfl) fun v F' H' g p => k v F' H' g p
/-! ### a def's end -/
theorem fin_neO {N : List Str} {Ps : List PV} {us : List V} {F H : Hp} {Q : VK} {E : XK} (h : JSN K M (fun cls d _ H => E cls d H) ts (entry N Ps) (.ok ds)) (fh : Ex F H) (al : AllP F us Ps) (th : ∀ D F' H', Acc K D F H F' H' ds → H D = none → Q (.ref D) H') : ts { nx := fun _ H' => Q .non H', rt := Q } (start N us) H :=
  h _ _ F H fh (Sl.start al) th
theorem fin_neE {N : List Str} {Ps : List PV} {us : List V} {F H : Hp} {Q : VK} {E : XK} (h : JSN K M (fun cls d _ H => E cls d H) ts (entry N Ps) (.error e)) (fh : Ex F H) (al : AllP F us Ps) (th : ∀ d u F' H', Gr F H F' H' → H d = none → H' d = some (.xd [(e.c.fld, u)]) → Dp K F' u e.val → E (.ref (M e.c)) (some d) H') : ts { nx := fun _ H' => Q .non H', rt := Q } (start N us) H :=
  h _ _ F H fh (Sl.start al) fun d u σ' F' H' g hn a b _ => th d u F' H' g hn a b
theorem je_catA {as bs : List PyData} (ha : JD K M W ta ps (.tuple as)) (hb : JD K M W tb ps (.tuple bs)) (hl : as.length + bs.length ≤ 100000) : JD K M W (tOp (rCatA K) ta tb) ps (.tuple (as ++ bs)) := je_op ha hb fun x y F H fh p q Q k => by
  obtain ⟨a, xs, rfl, hx, hd⟩ := dp_tup p
  obtain ⟨b, ys, rfl, hy, he⟩ := dp_tup q
  refine ⟨a, b, xs, ys, rfl, rfl, ex_t fh hx, ex_t fh hy, sz_of (by rw [dpLength hd, dpLength he]; exact hl), fun z => ?_, fun _ z => ?_, fun _ _ p hp => ?_⟩
  · subst z
    cases hd
    exact k _ F H (Gr.refl fh) q
  · subst z
    cases he
    rw [List.append_nil] at *
    exact k _ F H (Gr.refl fh) p
  · have g := Gr.new (o := .tup (xs ++ ys)) fh hp
    exact k _ _ _ g (.tup (st_of upd_same) (dpApp (dpAll_mono g.ff hd) (dpAll_mono g.ff he)))
theorem je_divW {i j : Int} (ha : JD K M W ta ps (.int i)) (hb : JD K M W tb ps (.int j)) (hc : CDivW i j) : JD K M W (tOp (rI CDivW fun i j => .int (i / j)) ta tb) ps (.int (i / j)) := je_iiC ha hb hc fun _ => .int _
end
end EB

/-! EB17: generator defs that hand out a list by yield from, and list(g). -/
namespace EB
open PySem PySem.Spec PyProof.Rows L2 Evl GenW
section
variable {prog : Program} {w : World} {A : Around} {E : Value → Shared → Prop} {s : Shared} {it l : Addr} {i : Nat} {items : Array Value}
theorem li_of {h : Heap} (z : h.get? it = some (GNX.itObj l i)) : h.IsListIter it l i := ⟨GNX.itObj l i, z, rfl, rfl⟩
theorem lst_item {x : Value} {Q : Option Value → Shared → Prop} (z : s.heap.get? it = some (GNX.itObj l i)) (hl : s.heap.IsList l items) (hx : items[i]? = some x)
    (k : ∀ h', h'.get? it = some (GNX.itObj l (i + 1)) → Heap.SameBut it s.heap h' → Q (some x) { s with heap := h' }) : wpAny (model prog w) A (callSpecial? (.ref it) "__next__") Q E s :=
  wpAny_callSpecial?_slot (name := Str.ofString "__next__") (li_of z).typeIs slot_listiter_next (wpAny_call_entry slot_listiter_next (li_of z).typeIs entry_listiter_next (GNX.next_item (Q := fun v => Q (some v)) z hl hx k) (args_listiter_next _))
theorem lst_end {Q : Option Value → Shared → Prop} (hA : A.handled = none) (z : s.heap.get? it = some (GNX.itObj l i)) (hl : s.heap.IsList l items) (hx : items[i]? = none)
    (k : ∀ e h', StopX e h' → Heap.ExtBut it s.heap h' → E e { s with heap := h' }) : wpAny (model prog w) A (callSpecial? (.ref it) "__next__") Q E s := by
  obtain ⟨oL, zL, _, nL, dL⟩ := hl
  refine wpAny_callSpecial?_slot (name := Str.ofString "__next__") (li_of z).typeIs slot_listiter_next (wpAny_call_entry slot_listiter_next (li_of z).typeIs entry_listiter_next ?_ (args_listiter_next _))
  refine (show wpAny _ _ (field (.ref it) 0 >>= _) _ _ s from wpAny_bind (wpAny_field z rfl (x := .ref l) rfl ?_))
  refine (show wpAny _ _ (if (Value.ref l == Value.none) = true then _ else _) _ _ s from ?_); rw [if_neg (show ¬ ((Value.ref l == Value.none) = true) from Bool.false_ne_true)]
  refine (show wpAny _ _ (field (.ref it) 1 >>= _) _ _ s from wpAny_bind (wpAny_field z rfl (x := .int i 0) rfl ?_))
  refine (show wpAny _ _ (seqItems? (.ref l) >>= _) _ _ s from wpAny_bind (wpAny_seqItems zL dL ?_)); simp only [Int.toNat_natCast, hx]
  refine wpAny_bind (wpAny_rule (wpAny_bind (wpAny_setField z rfl (by simp) (show wpAny _ _ (newExc (.type "StopIteration") [] >>= _) _ _ _ from wpAny_bind ?_))))
  simp only [newExc, newTuple]; refine wpAny_bind (wpAny_newObj_type (wpAny_bind (m := firstArgMember _ _) (wpAny_of_eq (a := Value.none) (by first | rfl | (simp only [firstArgMember]; rfl)) (wpAny_newObj_type ?_ (by size_fits)))) (by size_fits))
  simp only [raiseNew]; refine wpAny_bind (wpAny_handled ?_); first | rw [show A.in1.handled = none from hA] | rw [hA]
  refine wpAny_bind (wpAny_pure (wpAny_throw (k _ _ ⟨_, _, _, rfl, Heap.get?_push_size _ rfl, rfl, rfl, ?_⟩ (((Heap.SameBut.update ..).extBut.push _).push _))))
  first | rfl | (rw [Array.getElem?_append_left (by decide)]; rfl) | kernel_rfl
end
def tYfLst (te : TE) : TYf := fun σ H Q => te σ H fun x H1 => ∃ a xs, x = .ref a ∧ H1 a = some (.lst xs) ∧ Q xs H1
theorem close_lst : typeLookup (.type "list_iterator") "close" = pure none := by rw [typeLookup_type, builtinLookup_eq_fast]; kernel_rfl
theorem yf_lst {X : Cx} {e : Expr} {te : TE} (he : PE X e te) : YfE X e (tYfLst te) := by
  refine ⟨fun pins s σ H Q I hyp => thn (he.run pins s σ H _ I hyp) fun v s1 ⟨x, H1, I1, rv, a, xs, ex, at_, hq⟩ => ?_⟩
  subst ex
  obtain rfl : v = Value.ref a := rv
  obtain ⟨its, rits, pl, _⟩ := I1.list (SqL.of (K := X.K) at_)
  have isl : s1.heap.IsList a its.toArray := pl.isList
  have old : ∀ b ob, s1.heap.get? b = some ob → b ≠ s1.heap.objs.size := fun b ob z => Nat.ne_of_lt (Heap.lt_size z)
  have up : ∀ b ob, s1.heap.get? b = some ob → (s1.heap.push (GNX.itObj a 0)).get? b = some ob := fun b ob z => Heap.get?_push_of_some _ z
  refine ⟨"list", isl.typeIs, by decide, wpAny_pyIter_list isl ?_⟩
  let St : Nat → Heap → Prop := fun j h => h.get? s1.heap.objs.size = some (GNX.itObj a j) ∧ h.IsList a its.toArray
  have ane : a ≠ s1.heap.objs.size := by
    obtain ⟨ob, z, _⟩ := isl
    exact old a ob z
  have qit : QIt X H1 s1.heap.objs.size xs St := by
    refine ⟨⟨"list_iterator", fun j h q => ⟨_, q.1, rfl⟩, close_lst, by decide⟩, fun j h h' q hk => ?_, fun A' j y s2 Q' E' hA hy q hQ => ?_, fun A' s2 Q' E' hA q hE => ?_⟩
    · obtain ⟨q1, ob, q2, q3⟩ := q
      exact ⟨hk _ _ (.inl rfl) q1, ob, hk _ _ (.inr (by rw [at_]; exact fun z => nomatch z)) q2, q3⟩
    · obtain ⟨u, hu, ru⟩ := rits.get hy
      exact lst_item q.1 q.2 (x := u) (by simpa using hu) fun h' q1 sb => hQ u h' s2.toks ru ⟨q1, q.2.extBut sb.extBut ane⟩ fun b ob hb eb => sb.extBut b ob hb eb
    · have len := rits.length
      have no : its.toArray[xs.length]? = none := by
        have : its[xs.length]? = none := List.getElem?_eq_none_iff.mpr (by omega)
        simpa using this
      exact lst_end hA q.1 q.2 no fun e h' st sb => hE e h' s2.toks st fun b ob hb eb => sb b ob hb eb
  exact ⟨s1.heap.objs.size, H1, xs, St, rfl, I1.kept (t' := s1.toks) up, .inr I1.sz, Nat.ne_of_gt I1.lt, fun y c hy => by
    obtain ⟨v, ob, ho, _⟩ := I1.cell y c hy
    exact old c ob ho, I1.hok.fresh (Nat.le_refl _), fun p hp => old p.1 _ (I1.pin p hp).1, ⟨Heap.get?_push_size _ rfl, isl.push _⟩, qit, hq⟩
/-! ### a generator def's promise -/
/-- it hands out the items, or raises before the first one -/
def PrmG (K : PySem.W.Frag) (M : EC → Addr) {α : Type} (args : α → List PV) (dom : α → Prop) (out : α → Except Er (List PyData)) : SpG := fun vs H Q E => ∃ a F, Ex F H ∧ AllP F vs (args a) ∧ dom a ∧ (match out a with
  | .ok ds => ∀ ys F' H', Gr F H F' H' → DpAll K F' ys ds → Q ys H'
  | .error e => ∀ d u F' H', Gr F H F' H' → H d = none → H' d = some (.xd [(e.c.fld, u)]) → Dp K F' u e.val → E (.ref (M e.c)) (some d) H')
/-- what a call in the body may end in, whatever the slots then hold -/
def genE (K : PySem.W.Frag) (W : WX) (n : Nat) : XK := fun cls d H => PySem.W.subIn K cls (.type "StopIteration") = some false ∧ ∀ σ : L2.St, σ.length = n → W cls d σ H
theorem passG {X : Cx} {W : WX} {n : Nat} (tk : Takes X W) (hn : X.N.length = n) : Passes (L2.CX X.prog X.w) X (genE X.K W n) := fun pins σ H s e s' I c => tk e s' (XE.of_call I (fun _ _ _ h => h.2 σ (I.len.trans hn)) c)
theorem noStopG {K : PySem.W.Frag} {W : WX} {n : Nat} : NoStop K (genE K W n) := fun cls d H h => h.1
theorem jn_listG {K : PySem.W.Frag} {M : EC → Addr} {W : WX} {ps : Kn} {tr : TA} {α : Type} {args : α → List PV} {dom : α → Prop} {out : α → Except Er (List PyData)} {E : XK} (a : α) {ds : List PyData} (h : JA K M W tr ps (args a)) (hd : dom a) (ho : out a = .ok ds) : JN K (tListG (tCallG (PrmG K M args dom out) [] E tr)) ps ds := fun σ F H Q fh S k =>
  h σ F H _ fh S fun vs F1 H1 e1 al => by
    refine ⟨a, F1, e1.fh, by rw [List.append_nil]; exact al, hd, ?_⟩
    rw [ho]
    exact fun ys F2 H2 g hy p hp => by
      have g2 := e1.trans g
      exact k p F2 _ ⟨gr_mut g2 (fresh_back g2.hh hp) (fresh_back g2.fh hp), fresh_back g2.fh hp, ys, upd_same, hy⟩ (fresh_back g2.hh hp)
theorem je_listG {K : PySem.W.Frag} {M : EC → Addr} {W : WX} {ps : Kn} {tr : TA} {α : Type} {args : α → List PV} {dom : α → Prop} {out : α → Except Er (List PyData)} {n : Nat} {i : Nat} (a : α) {e : Er} (h : JA K M W tr ps (args a)) (hd : dom a) (ho : out a = .error e) (hs : PySem.W.subIn K (.ref (M e.c)) (.type "StopIteration") = some false) (hn : ps.length = n) : JS K M W (tAsg (tListG (tCallG (PrmG K M args dom out) [] (genE K W n) tr)) (gName i)) ps (.er e) := fun D σ F H fh S k =>
  h σ F H _ fh S fun vs F1 H1 e1 al => by
    refine ⟨a, F1, e1.fh, by rw [List.append_nil]; exact al, hd, ?_⟩
    rw [ho]
    exact fun d u F2 H2 g hd2 hx hp => ⟨hs, fun σ' hl => k d u σ' F2 H2 (e1.trans g) (fresh_back e1.hh hd2) hx hp (by rw [hl, hn])⟩
end EB

/-! EB18: a comprehension of two for's, as a plain list. -/
namespace EB
open PySem PySem.Spec PyProof.Rows L2 Evl
section
variable {K : PySem.W.Frag} {M : EC → Addr} {W : WX} {ps : Kn} {te : TE} {t : TT} {vs : List Nat}
theorem je_lc2V {α β : Type} {wi wi1 : TI} {g g1 : TG} {u : TT} {vs1 : List Nat} (xs : List α) (ys : α → List β) (enc : α → PyData) (enc1 : β → PyData) (b : α → β → Bool) (e : α → β → PyData) {W' : WX} (hi : JI K M W wi ps (xs.map enc))
    (hlen : (xs.flatMap fun x => ((ys x).filter (b x)).map (e x)).length ≤ 90000)
    (hs : ∀ x ∈ xs, ∃ qs, JG vs g (wipeK ps vs) (dv K (enc x)) qs ∧ JT K M W' t qs true ∧ JI K M W' wi1 qs ((ys x).map enc1) ∧
      ∀ y ∈ ys x, ∃ rs, JG vs1 g1 (wipeK qs vs1) (dv K (enc1 y)) rs ∧ JT K M W' u rs (b x y) ∧ (b x y = true → JD K M W' te rs (e x y))) :
    JV K M W (tLc2 wi g t wi1 g1 u te vs vs1) ps (lv K (xs.flatMap fun x => ((ys x).filter (b x)).map (e x))) := fun σ F H Q fh S k => hi σ F H _ fh S fun J F1 H1 e1 it D hD => by
  let out : α → List PyData := fun x => ((ys x).filter (b x)).map (e x)
  refine ⟨fun i n H' => n = xs.length - i ∧ i ≤ xs.length ∧ ∃ F', Acc K D F1 H1 F' H' ((xs.take i).flatMap out), ⟨xs.length, by omega, Nat.zero_le _, F1, Acc.start e1.fh hD⟩, ?_⟩
  rintro i n H' ⟨rfl, him, F2, A⟩
  by_cases hlt : i < xs.length
  · have hx : xs[i]? = some xs[i] := List.getElem?_eq_getElem hlt
    have hmem : xs[i] ∈ xs := List.getElem_mem hlt
    have hex : (xs.map enc)[i]? = some (enc xs[i]) := by rw [List.getElem?_map, hx] <;> rfl
    refine .inr ⟨it.go i H' (A.gr.ff.trans A.gr.fh) (by rw [List.length_map]; exact hlt), fun H3 => ∃ F3, Acc K D F1 H1 F3 H3 ((xs.take (i + 1)).flatMap out), fun H3 q => ⟨xs.length - (i + 1), by omega, rfl, hlt, q⟩, fun x H3 y => ?_⟩
    obtain ⟨F3, e3, dx⟩ := it.yld i _ F2 H' x H3 A.gr.ff A.gr.fh hex y
    have A3 := A.step e3
    obtain ⟨qs, hg, ht, hi1, hin⟩ := hs xs[i] hmem
    refine hg x (wipe σ vs) F3 H3 _ e3.fh ((S.mono (e1.ff.trans A3.gr.ff)).wipe vs) dx fun σ4 F4 H4 e4 S4 u4 => ⟨wipe_upto (upto_wipe.trans u4), ht σ4 F4 H4 _ e4.fh S4 fun F5 H5 e5 => ?_⟩
    have A5 := (A3.step e4).step e5
    show wi1 σ4 H5 _
    refine hi1 σ4 F5 H5 _ e5.fh (S4.mono e5.ff) fun J1 F6 H6 e6 it1 => ?_
    have A6 := A5.step e6
    have pre := flatMap_take_le out xs (i + 1)
    rw [flatMap_take_succ hx, List.length_append] at pre
    refine ⟨fun j n H' => n = (ys xs[i]).length - j ∧ j ≤ (ys xs[i]).length ∧ ∃ F', Ex F6 F' ∧ Acc K D F1 H1 F' H' ((xs.take i).flatMap out ++ (((ys xs[i]).take j).filter (b xs[i])).map (e xs[i])), ⟨(ys xs[i]).length, by omega, Nat.zero_le _, F6, Ex.refl _, by simpa using A6⟩, ?_⟩
    rintro j n H7 ⟨rfl, hj, F7, x67, A7⟩
    by_cases hjl : j < (ys xs[i]).length
    · have hy : (ys xs[i])[j]? = some (ys xs[i])[j] := List.getElem?_eq_getElem hjl
      have ymem : (ys xs[i])[j] ∈ ys xs[i] := List.getElem_mem hjl
      have hey : ((ys xs[i]).map enc1)[j]? = some (enc1 (ys xs[i])[j]) := by rw [List.getElem?_map, hy] <;> rfl
      refine .inr ⟨it1.go j H7 (x67.trans A7.gr.fh) (by rw [List.length_map]; exact hjl), fun H8 => ∃ F8, Ex F6 F8 ∧ Acc K D F1 H1 F8 H8 ((xs.take i).flatMap out ++ (((ys xs[i]).take (j + 1)).filter (b xs[i])).map (e xs[i])), fun H8 q => ⟨(ys xs[i]).length - (j + 1), by omega, rfl, hjl, q⟩, fun x1 H8 y1 => ?_⟩
      obtain ⟨F8, e8, dy⟩ := it1.yld j _ F7 H7 x1 H8 x67 A7.gr.fh hey y1
      have A8 := A7.step e8
      obtain ⟨rs, hg1, ht1, he1⟩ := hin _ ymem
      refine hg1 x1 (wipe σ4 vs1) F8 H8 _ e8.fh ((S4.mono ((e5.ff.trans e6.ff).trans (x67.trans e8.ff))).wipe vs1) dy fun σ9 F9 H9 e9 S9 u9 => ⟨wipe_upto (upto_wipe.trans u9), ht1 σ9 F9 H9 _ e9.fh S9 fun Fa Ha ea => ?_⟩
      have Aa := (A8.step e9).step ea
      have ff := filter_take_succ (b := b xs[i]) hy
      have pre2 : (((ys xs[i]).take j).filter (b xs[i])).length ≤ ((ys xs[i]).filter (b xs[i])).length := by
        conv => rhs; rw [← List.take_append_drop j (ys xs[i])]
        rw [List.filter_append, List.length_append]
        omega
      have lout : (out xs[i]).length = ((ys xs[i]).filter (b xs[i])).length := List.length_map _
      cases hb : b xs[i] (ys xs[i])[j] with
      | true =>
        rw [hb] at ff
        show te σ9 Ha _
        refine (he1 hb).go ea.fh (S9.mono ea.ff) fun v Fb Hb eb p => ?_
        have Ab := Aa.step eb
        obtain ⟨acc, hb6, _⟩ := Ab.at_
        refine ⟨acc, hb6, sz_lt ?_, Fb, ((x67.trans e8.ff).trans e9.ff).trans (ea.ff.trans eb.ff), ?_⟩
        · rw [Ab.len hb6, List.length_append, List.length_map]
          have h1 : (xs.flatMap out).length ≤ 90000 := hlen
          omega
        · rw [ff, List.map_append, ← List.append_assoc]
          exact Ab.app hD hb6 p
      | false =>
        rw [hb] at ff
        show ∃ F8, Ex F6 F8 ∧ Acc K D F1 H1 F8 Ha _
        rw [ff]
        simp only [Bool.false_eq_true, if_false, List.append_nil]
        exact ⟨Fa, ((x67.trans e8.ff).trans e9.ff).trans ea.ff, Aa⟩
    · have hem : j = (ys xs[i]).length := by omega
      subst hem
      rw [List.take_length] at A7
      refine .inl ⟨it1.stop _ H7 (x67.trans A7.gr.fh) (by rw [List.length_map]; exact Nat.le_refl _), F7, ?_⟩
      rw [flatMap_take_succ hx]
      exact A7
  · have hem : i = xs.length := by omega
    subst hem
    rw [List.take_length] at A
    obtain ⟨acc0, h0, hd0⟩ := A.at_
    exact .inl ⟨it.stop _ H' (A.gr.ff.trans A.gr.fh) (by rw [List.length_map]; exact Nat.le_refl _), k _ _ H' (e1.trans (gr_in A.gr hD A.off h0)) ⟨D, acc0, rfl, upd_same, dpAll_mono (Ex.new A.off) hd0⟩⟩
end
end EB

/-! KM: shifts of rows (Horner), sums, second differences, Pascal's triangle: plain lists of integers, no kit. -/
namespace KM
/-- (x + t) * s + c -/
def hz (t c : Int) : List Int → List Int
  | [] => [c]
  | a :: s => (c + t * a) :: hz t a s
/-- the row's polynomial at x + t -/
def mv (t : Int) : List Int → List Int
  | [] => []
  | c :: p => hz t c (mv t p)
theorem hz_len (t : Int) : ∀ (s : List Int) (c : Int), (hz t c s).length = s.length + 1
  | [], _ => rfl
  | a :: s, c => by show (hz t a s).length + 1 = _; rw [hz_len t s a]; rfl
theorem mv_len (t : Int) : ∀ p : List Int, (mv t p).length = p.length
  | [] => rfl
  | c :: p => by show (hz t c (mv t p)).length = _; rw [hz_len, mv_len t p]; rfl
theorem hz_zero : ∀ (s : List Int) (c : Int), hz 0 c s = c :: s
  | [], _ => rfl
  | a :: s, c => by show (c + 0 * a) :: hz 0 a s = _; rw [hz_zero s a, Int.zero_mul, Int.add_zero]
theorem hz_comm (t u : Int) : ∀ (z : List Int) (a c : Int), hz u (c + t * a) (hz (t + u) a z) = hz (t + u) c (hz u a z)
  | [], a, c => by
    show [c + t * a + u * a, a] = [c + (t + u) * a, a]
    rw [Int.add_mul, Int.add_assoc]
  | b :: z, a, c => by
    have ih := hz_comm t u z b (a + u * b)
    have e : a + u * b + t * b = a + (t + u) * b := by rw [Int.add_mul]; omega
    rw [e] at ih
    show (c + t * a + u * (a + (t + u) * b)) :: hz u (a + (t + u) * b) (hz (t + u) b z) = (c + (t + u) * (a + u * b)) :: hz (t + u) (a + u * b) (hz u b z)
    rw [ih]
    congr 1
    have h1 : u * ((t + u) * b) = (t + u) * (u * b) := by rw [← Int.mul_assoc, ← Int.mul_assoc, Int.mul_comm u (t + u)]
    rw [Int.mul_add, Int.mul_add, h1, Int.add_mul t u a]
    omega
theorem mv_hz (t u : Int) : ∀ (s : List Int) (c : Int), mv u (hz t c s) = hz (t + u) c (mv u s)
  | [], c => rfl
  | a :: s, c => by
    show hz u (c + t * a) (mv u (hz t a s)) = hz (t + u) c (hz u a (mv u s))
    rw [mv_hz t u s a, hz_comm]
theorem mv_mv (t u : Int) (h : t + u = 0) : ∀ p : List Int, mv u (mv t p) = p
  | [] => rfl
  | c :: p => by
    show mv u (hz t c (mv t p)) = _
    rw [mv_hz, mv_mv t u h p, h, hz_zero]
/-! ### entries -/
theorem getD_cons_succ (a : Int) (s : List Int) (i : Nat) : (a :: s).getD (i + 1) 0 = s.getD i 0 := by simp
theorem getD_cons_zero (a : Int) (s : List Int) : (a :: s).getD 0 0 = a := by simp
theorem hz_get (t : Int) : ∀ (s : List Int) (c : Int) (i : Nat), (hz t c s).getD i 0 = (c :: s).getD i 0 + t * s.getD i 0
  | [], c, i => by
    show [c].getD i 0 = [c].getD i 0 + t * ([] : List Int).getD i 0
    simp
  | a :: s, c, 0 => by
    show ((c + t * a) :: hz t a s).getD 0 0 = _
    simp
  | a :: s, c, i + 1 => by
    show ((c + t * a) :: hz t a s).getD (i + 1) 0 = _
    rw [getD_cons_succ, hz_get t s a i, getD_cons_succ, getD_cons_succ]
/-- the kernel -/
def kt (t : Int) : Nat → Nat → Int
  | 0, 0 => 1
  | 0, _ + 1 => 0
  | m + 1, 0 => t * kt t m 0
  | m + 1, s + 1 => t * kt t m (s + 1) + kt t m s
/-- Σ f i for i < n -/
def Z (n : Nat) (f : Nat → Int) : Int := ((List.range n).map f).sum
theorem Z_zero (f : Nat → Int) : Z 0 f = 0 := rfl
theorem Z_succ (n : Nat) (f : Nat → Int) : Z (n + 1) f = Z n f + f n := by
  unfold Z
  rw [List.range_succ, List.map_append, List.sum_append]
  simp
theorem Z_front (n : Nat) (f : Nat → Int) : Z (n + 1) f = f 0 + Z n (fun i => f (i + 1)) := by
  induction n with
  | zero => rw [Z_succ, Z_zero, Z_zero]; omega
  | succ n ih => rw [Z_succ, ih, Z_succ]; omega
theorem Z_congr {n : Nat} {f g : Nat → Int} (h : ∀ i, i < n → f i = g i) : Z n f = Z n g := by
  unfold Z
  rw [List.map_congr_left fun i hi => h i (List.mem_range.mp hi)]
theorem Z_add (n : Nat) (f g : Nat → Int) : Z n (fun i => f i + g i) = Z n f + Z n g := by
  induction n with
  | zero => rfl
  | succ n ih => rw [Z_succ, Z_succ, Z_succ, ih]; omega
theorem Z_mul (n : Nat) (c : Int) (f : Nat → Int) : Z n (fun i => c * f i) = c * Z n f := by
  induction n with
  | zero => rw [Z_zero, Z_zero, Int.mul_zero]
  | succ n ih => rw [Z_succ, Z_succ, ih, Int.mul_add]
theorem Z_nil (n : Nat) : Z n (fun _ => 0) = 0 := by
  induction n with
  | zero => rfl
  | succ n ih => rw [Z_succ, ih]; rfl
theorem Z_split (a b : Nat) (f : Nat → Int) : Z (a + b) f = Z a f + Z b (fun i => f (a + i)) := by
  induction b with
  | zero => rw [Nat.add_zero, Z_zero, Int.add_zero]
  | succ b ih => rw [← Nat.add_assoc, Z_succ, ih, Z_succ]; omega
theorem mv_get (t : Int) : ∀ (p : List Int) (s : Nat), (mv t p).getD s 0 = Z p.length (fun m => p.getD m 0 * kt t m s)
  | [], s => by show ([] : List Int).getD s 0 = _; simp [Z]
  | c :: p, s => by
    show (hz t c (mv t p)).getD s 0 = Z (p.length + 1) _
    rw [hz_get, Z_front, mv_get t p s]
    cases s with
    | zero =>
      rw [getD_cons_zero, getD_cons_zero, show kt t 0 0 = 1 from rfl, Int.mul_one, ← Z_mul]
      congr 1
      refine Z_congr fun i _ => ?_
      show t * (p.getD i 0 * kt t i 0) = (c :: p).getD (i + 1) 0 * (t * kt t i 0)
      rw [getD_cons_succ, ← Int.mul_assoc, ← Int.mul_assoc, Int.mul_comm t]
    | succ s =>
      rw [getD_cons_succ, mv_get t p s, show kt t 0 (s + 1) = 0 from rfl, Int.mul_zero, Int.zero_add, ← Z_mul, ← Z_add]
      refine Z_congr fun i _ => ?_
      show p.getD i 0 * kt t i s + t * (p.getD i 0 * kt t i (s + 1)) = (c :: p).getD (i + 1) 0 * (t * kt t i (s + 1) + kt t i s)
      rw [getD_cons_succ, Int.mul_add, ← Int.mul_assoc, ← Int.mul_assoc, Int.mul_comm t]
      omega
/-! ### Pascal -/
def ch : Nat → Nat → Int
  | _, 0 => 1
  | 0, _ + 1 => 0
  | n + 1, k + 1 => ch n k + ch n (k + 1)
theorem ch_above : ∀ (n k : Nat), n < k → ch n k = 0
  | _, 0, h => by omega
  | 0, _ + 1, _ => rfl
  | n + 1, k + 1, h => by show ch n k + ch n (k + 1) = 0; rw [ch_above n k (by omega), ch_above n (k + 1) (by omega)]; rfl
theorem kt_one : ∀ (m s : Nat), kt 1 m s = ch m s
  | 0, 0 => rfl
  | 0, _ + 1 => rfl
  | m + 1, 0 => by show 1 * kt 1 m 0 = 1; rw [kt_one m 0, Int.one_mul]; cases m <;> rfl
  | m + 1, s + 1 => by show 1 * kt 1 m (s + 1) + kt 1 m s = ch m s + ch m (s + 1); rw [kt_one m (s + 1), kt_one m s]; omega
def sg (n : Nat) : Int := if n % 2 = 1 then -1 else 1
theorem sg_succ (n : Nat) : sg (n + 1) = -sg n := by
  unfold sg
  by_cases h : n % 2 = 1
  · rw [if_pos h, if_neg (by omega)]; rfl
  · rw [if_neg h, if_pos (by omega)]
theorem kt_neg : ∀ (m s : Nat), kt (-1) m s = sg (m + s) * ch m s
  | 0, 0 => rfl
  | 0, _ + 1 => by show (0 : Int) = _ * 0; rw [Int.mul_zero]
  | m + 1, 0 => by
    show -1 * kt (-1) m 0 = _
    rw [kt_neg m 0, show m + 1 + 0 = (m + 0) + 1 by omega, sg_succ, show ch (m + 1) 0 = 1 from rfl, show ch m 0 = 1 by cases m <;> rfl, Nat.add_zero]
    omega
  | m + 1, s + 1 => by
    show -1 * kt (-1) m (s + 1) + kt (-1) m s = _ * (ch m s + ch m (s + 1))
    rw [kt_neg m (s + 1), kt_neg m s, show m + (s + 1) = (m + s) + 1 by omega, show m + 1 + (s + 1) = (m + s) + 1 + 1 by omega, sg_succ, sg_succ, sg_succ, Int.neg_neg, Int.mul_add, Int.neg_mul, Int.one_mul, Int.neg_mul, Int.neg_neg]
    omega
/-! ### totals and differences -/
def tots : Int → List Int → List Int
  | _, [] => []
  | t, a :: r => (t + a) :: tots (t + a) r
theorem tots_len : ∀ (r : List Int) (t : Int), (tots t r).length = r.length
  | [], _ => rfl
  | a :: r, t => by show (tots (t + a) r).length + 1 = _; rw [tots_len r (t + a)]; rfl
theorem tots_app : ∀ (r : List Int) (t a : Int), tots t (r ++ [a]) = tots t r ++ [t + r.sum + a]
  | [], t, a => by simp [tots]
  | b :: r, t, a => by
    show (t + b) :: tots (t + b) (r ++ [a]) = (t + b) :: tots (t + b) r ++ _
    rw [tots_app r (t + b) a, List.sum_cons, show t + b + r.sum + a = t + (b + r.sum) + a by omega]
    rfl
/-- x[k] - x[k - 1], from a first one -/
def difs : Int → List Int → List Int
  | p, [] => [0 - p]
  | p, a :: r => (a - p) :: difs a r
theorem difs_len : ∀ (r : List Int) (p : Int), (difs p r).length = r.length + 1
  | [], _ => rfl
  | a :: r, p => by show (difs a r).length + 1 = _; rw [difs_len r a]; rfl
theorem tots_difs : ∀ (r : List Int) (p : Int), tots p (difs p r) = r ++ [0]
  | [], p => by show [p + (0 - p)] = [0]; rw [show p + (0 - p) = 0 by omega]
  | a :: r, p => by
    show (p + (a - p)) :: tots (p + (a - p)) (difs a r) = a :: r ++ [0]
    rw [show p + (a - p) = a by omega, tots_difs r a]
    rfl
theorem difs_sum : ∀ (r : List Int) (p : Int), (difs p r).sum = -p
  | [], p => by show (0 - p) + 0 = -p; omega
  | a :: r, p => by rw [show difs p (a :: r) = (a - p) :: difs a r from rfl, List.sum_cons, difs_sum r a]; omega
theorem difs_get : ∀ (r : List Int) (p : Int) (i : Nat), i ≤ r.length → (difs p r).getD i 0 = r.getD i 0 - (p :: r).getD i 0
  | [], p, i, h => by
    have : i = 0 := by simpa using h
    subst this
    show [0 - p].getD 0 0 = ([] : List Int).getD 0 0 - [p].getD 0 0
    simp
  | a :: r, p, 0, _ => by show ((a - p) :: difs a r).getD 0 0 = _; simp
  | a :: r, p, i + 1, h => by
    show ((a - p) :: difs a r).getD (i + 1) 0 = _
    rw [getD_cons_succ, difs_get r a i (by simpa using h), getD_cons_succ, getD_cons_succ]
/-- the weighted sum Σ (k + i) r[i] -/
def wt : Nat → List Int → Int
  | _, [] => 0
  | k, a :: r => (k : Int) * a + wt (k + 1) r
theorem wt_Z : ∀ (r : List Int) (k : Nat), wt k r = Z r.length (fun i => ((k + i : Nat) : Int) * r.getD i 0)
  | [], _ => rfl
  | a :: r, k => by
    show (k : Int) * a + wt (k + 1) r = Z (r.length + 1) _
    rw [Z_front, wt_Z r (k + 1), getD_cons_zero, Nat.add_zero]
    congr 1
    refine Z_congr fun i _ => ?_
    rw [getD_cons_succ, show k + 1 + i = k + (i + 1) by omega]
theorem wt_succ : ∀ (r : List Int) (k : Nat), wt (k + 1) r = wt k r + r.sum
  | [], _ => rfl
  | a :: r, k => by
    show ((k + 1 : Nat) : Int) * a + wt (k + 1 + 1) r = (k : Int) * a + wt (k + 1) r + (a :: r).sum
    rw [wt_succ r (k + 1), List.sum_cons, Int.natCast_add, Int.add_mul]
    omega
/-- the sum of all totals: Σ (n - i) r[i] -/
theorem tots_sum : ∀ (r : List Int) (t : Int), (tots t r).sum = (r.length : Int) * t + ((r.length : Int) * r.sum - wt 0 r)
  | [], t => by show (0 : Int) = (0 : Int) * t + ((0 : Int) * 0 - 0); omega
  | a :: r, t => by
    show (t + a) + (tots (t + a) r).sum = ((r.length + 1 : Nat) : Int) * t + (((r.length + 1 : Nat) : Int) * (a :: r).sum - (((0 : Nat) : Int) * a + wt (0 + 1) r))
    rw [tots_sum r (t + a), wt_succ, List.sum_cons, Int.natCast_add, Int.add_mul, Int.add_mul, Int.mul_add, Int.mul_add]
    simp only [Int.natCast_zero, Int.zero_mul]
    have : ((1 : Nat) : Int) = 1 := rfl
    rw [this]
    omega

/-! ### the two ways of unbend -/
/-- found after the bends r, from the last two ones -/
def unb : Int → Int → List Int → List Int
  | _, _, [] => []
  | x, y, b :: r => (b + 2 * y - x) :: unb y (b + 2 * y - x) r
theorem unb_len : ∀ (r : List Int) (x y : Int), (unb x y r).length = r.length
  | [], _, _ => rfl
  | b :: r, x, y => by show (unb _ _ r).length + 1 = _; rw [unb_len r]; rfl
theorem unb_tots : ∀ (r : List Int) (x y : Int), unb x y r = tots y (tots (y - x) r)
  | [], _, _ => rfl
  | b :: r, x, y => by
    show (b + 2 * y - x) :: unb y (b + 2 * y - x) r = (y + (y - x + b)) :: tots (y + (y - x + b)) (tots (y - x + b) r)
    rw [unb_tots r y (b + 2 * y - x), show b + 2 * y - x - y = y - x + b by omega, show b + 2 * y - x = y + (y - x + b) by omega]
theorem unb_app : ∀ (r : List Int) (x y b : Int), unb x y (r ++ [b]) = unb x y r ++ [b + 2 * ([x, y] ++ unb x y r).getD (r.length + 1) 0 - ([x, y] ++ unb x y r).getD r.length 0]
  | [], x, y, b => by simp [unb]
  | a :: r, x, y, b => by
    show (a + 2 * y - x) :: unb y (a + 2 * y - x) (r ++ [b]) = (a + 2 * y - x) :: unb y (a + 2 * y - x) r ++ _
    rw [unb_app r y (a + 2 * y - x) b]
    simp [unb]
/-- the last entry of the totals -/
theorem tots_last : ∀ (r : List Int) (t : Int), r ≠ [] → (tots t r).getD (r.length - 1) 0 = t + r.sum
  | [], _, h => absurd rfl h
  | [a], t, _ => by simp [tots]
  | a :: b :: r, t, _ => by
    have := tots_last (b :: r) (t + a) (by simp)
    show ((t + a) :: tots (t + a) (b :: r)).getD ((b :: r).length - 1 + 1) 0 = _
    rw [getD_cons_succ, this, List.sum_cons (a := a)]
    omega
theorem tots_get_succ : ∀ (r : List Int) (t : Int) (i : Nat), i + 1 < r.length → (tots t r).getD (i + 1) 0 = (tots t r).getD i 0 + r.getD (i + 1) 0
  | [], _, _, h => by simp at h
  | [a], _, _, h => by simp at h
  | a :: b :: r, t, 0, _ => by simp [tots]
  | a :: b :: r, t, i + 1, h => by
    have := tots_get_succ (b :: r) (t + a) i (by simpa using h)
    show ((t + a) :: tots (t + a) (b :: r)).getD (i + 1 + 1) 0 = ((t + a) :: tots (t + a) (b :: r)).getD (i + 1) 0 + _
    rw [getD_cons_succ, this, getD_cons_succ, getD_cons_succ, getD_cons_succ, getD_cons_succ]
/-- both last ones are 0 exactly if the sum and the weighted sum are -/
theorem last_two {r : List Int} (h : 2 ≤ r.length) : ((tots 0 (tots 0 r)).getD (r.length - 2) 0 = 0 ∧ (tots 0 (tots 0 r)).getD (r.length - 1) 0 = 0) ↔ (r.sum = 0 ∧ wt 0 r = 0) := by
  have hl := tots_len r 0
  have e1 : (tots 0 (tots 0 r)).getD (r.length - 1) 0 = (r.length : Int) * r.sum - wt 0 r := by
    have := tots_last (tots 0 r) 0 (fun z => by rw [z] at hl; simp at hl; omega)
    rw [hl] at this
    rw [this, tots_sum]
    omega
  have e2 : (tots 0 (tots 0 r)).getD (r.length - 1) 0 = (tots 0 (tots 0 r)).getD (r.length - 2) 0 + r.sum := by
    have := tots_get_succ (tots 0 r) 0 (r.length - 2) (by omega)
    rw [show r.length - 2 + 1 = r.length - 1 by omega] at this
    rw [this]
    have h3 := tots_last r 0 (fun z => by rw [z] at h; simp at h)
    rw [h3]
    omega
  constructor
  · rintro ⟨a, b⟩
    have hs : r.sum = 0 := by omega
    refine ⟨hs, ?_⟩
    rw [b, hs, Int.mul_zero] at e1
    omega
  · rintro ⟨a, b⟩
    rw [a, b, Int.mul_zero] at e1
    omega
/-- unbend undoes bends -/
theorem back (r : List Int) : tots 0 (tots 0 (difs 0 (difs 0 r))) = r ++ [0] ++ [0] := by
  rw [tots_difs, tots_app, tots_difs, difs_sum]
  rfl
theorem back_sum (r : List Int) : (difs 0 (difs 0 r)).sum = 0 := by rw [difs_sum]; rfl
theorem back_wt (r : List Int) : wt 0 (difs 0 (difs 0 r)) = 0 := by
  have h := tots_sum (difs 0 (difs 0 r)) 0
  rw [tots_difs, List.sum_append, difs_sum, back_sum] at h
  simp at h
  omega
end KM

namespace K02
open PySem PySem.Spec PyProof.Rows L2 Evl EB
def topS (i : Nat) : Stmt := PySem.Challenge.pw_everybowl_k02_tables_there_and_back.main.body.getD i (.Pass ⟨0, 0, 0, 0⟩)
abbrev s_NoSize : Stmt := inClass (topS 5) 0
theorem sc_NoSize : FnScope ["self", "size"] ["self", "size"] (defScope s_NoSize) := ⟨rfl, rfl, rfl, by decide +kernel, rfl, by decide +kernel, by decide +kernel⟩
abbrev s_TooFar : Stmt := inClass (topS 4) 0
theorem sc_TooFar : FnScope ["self", "value"] ["self", "value"] (defScope s_TooFar) := ⟨rfl, rfl, rfl, by decide +kernel, rfl, by decide +kernel, by decide +kernel⟩
abbrev s_WrongCount : Stmt := inClass (topS 3) 0
theorem sc_WrongCount : FnScope ["self", "count"] ["self", "count"] (defScope s_WrongCount) := ⟨rfl, rfl, rfl, by decide +kernel, rfl, by decide +kernel, by decide +kernel⟩
abbrev s_WrongRow : Stmt := inClass (topS 6) 0
theorem sc_WrongRow : FnScope ["self", "form"] ["self", "form"] (defScope s_WrongRow) := ⟨rfl, rfl, rfl, by decide +kernel, rfl, by decide +kernel, by decide +kernel⟩
abbrev s__law_whole : Stmt := topS 36
abbrev N__law_whole : List Str := ["thing"]
theorem sc__law_whole : FnScope N__law_whole ["thing"] (defScope s__law_whole) := ⟨rfl, rfl, rfl, by decide +kernel, rfl, by decide +kernel, by decide +kernel⟩
abbrev s_check_size : Stmt := topS 10
abbrev N_check_size : List Str := ["size", "least", "most"]
theorem sc_check_size : FnScope N_check_size ["size", "least", "most"] (defScope s_check_size) := ⟨rfl, rfl, rfl, by decide +kernel, rfl, by decide +kernel, by decide +kernel⟩
abbrev s_check_range : Stmt := topS 9
abbrev N_check_range : List Str := ["value", "least", "most"]
theorem sc_check_range : FnScope N_check_range ["value", "least", "most"] (defScope s_check_range) := ⟨rfl, rfl, rfl, by decide +kernel, rfl, by decide +kernel, by decide +kernel⟩
abbrev s_first_behind : Stmt := topS 25
abbrev N_first_behind : List Str := ["part"]
theorem sc_first_behind : FnScope N_first_behind ["part"] (defScope s_first_behind) := ⟨rfl, rfl, rfl, by decide +kernel, rfl, by decide +kernel, by decide +kernel⟩
abbrev s_subset_list : Stmt := topS 24
abbrev N_subset_list : List Str := ["n", "size", "found", "_", "part", "k"]
theorem sc_subset_list : FnScope N_subset_list ["n", "size"] (defScope s_subset_list) := ⟨rfl, rfl, rfl, by decide +kernel, rfl, by decide +kernel, by decide +kernel⟩
abbrev s_subsets : Stmt := topS 23
abbrev N_subsets : List Str := ["n", "size"]
theorem sc_subsets : GScope N_subsets ["n", "size"] (defScope s_subsets) := ⟨rfl, rfl, rfl, by decide +kernel, rfl, by decide +kernel, by decide +kernel⟩
abbrev s__law_listed : Stmt := topS 43
abbrev N__law_listed : List Str := ["n", "size", "got", "e", "alone", "row", "k"]
theorem sc__law_listed : FnScope N__law_listed ["n", "size"] (defScope s__law_listed) := ⟨rfl, rfl, rfl, by decide +kernel, rfl, by decide +kernel, by decide +kernel⟩
abbrev s_choose : Stmt := topS 22
abbrev N_choose : List Str := ["n", "k"]
theorem sc_choose : FnScope N_choose ["n", "k"] (defScope s_choose) := ⟨rfl, rfl, rfl, by decide +kernel, rfl, by decide +kernel, by decide +kernel⟩
abbrev s__law_chosen : Stmt := topS 41
abbrev N__law_chosen : List Str := ["n", "k", "got", "e", "alone"]
theorem sc__law_chosen : FnScope N__law_chosen ["n", "k"] (defScope s__law_chosen) := ⟨rfl, rfl, rfl, by decide +kernel, rfl, by decide +kernel, by decide +kernel⟩
abbrev s__law_grown : Stmt := topS 44
abbrev N__law_grown : List Str := ["n", "size", "rows", "k", "longer", "row", "first", "number"]
theorem sc__law_grown : FnScope N__law_grown ["n", "size"] (defScope s__law_grown) := ⟨rfl, rfl, rfl, by decide +kernel, rfl, by decide +kernel, by decide +kernel⟩
abbrev s__law_subsets_hold : Stmt := topS 45
abbrev N__law_subsets_hold : List Str := ["n", "size", "due"]
theorem sc__law_subsets_hold : FnScope N__law_subsets_hold ["n", "size"] (defScope s__law_subsets_hold) := ⟨rfl, rfl, rfl, by decide +kernel, rfl, by decide +kernel, by decide +kernel⟩
abbrev s__law_cell : Stmt := topS 27
abbrev N__law_cell : List Str := ["cells", "place"]
theorem sc__law_cell : FnScope N__law_cell ["cells", "place"] (defScope s__law_cell) := ⟨rfl, rfl, rfl, by decide +kernel, rfl, by decide +kernel, by decide +kernel⟩
abbrev s__law_pascal : Stmt := topS 40
abbrev N__law_pascal : List Str := ["n", "row", "k", "j"]
theorem sc__law_pascal : FnScope N__law_pascal ["n"] (defScope s__law_pascal) := ⟨rfl, rfl, rfl, by decide +kernel, rfl, by decide +kernel, by decide +kernel⟩
abbrev s__law_choice_holds : Stmt := topS 42
abbrev N__law_choice_holds : List Str := ["n", "k", "due"]
theorem sc__law_choice_holds : FnScope N__law_choice_holds ["n", "k"] (defScope s__law_choice_holds) := ⟨rfl, rfl, rfl, by decide +kernel, rfl, by decide +kernel, by decide +kernel⟩
abbrev s_check_count : Stmt := topS 8
abbrev N_check_count : List Str := ["members", "least", "most"]
theorem sc_check_count : FnScope N_check_count ["members", "least", "most"] (defScope s_check_count) := ⟨rfl, rfl, rfl, by decide +kernel, rfl, by decide +kernel, by decide +kernel⟩
abbrev s_check_row : Stmt := topS 20
abbrev N_check_row : List Str := ["row", "least", "entry"]
theorem sc_check_row : FnScope N_check_row ["row", "least"] (defScope s_check_row) := ⟨rfl, rfl, rfl, by decide +kernel, rfl, by decide +kernel, by decide +kernel⟩
abbrev s_spread : Stmt := topS 14
abbrev N_spread : List Str := ["row", "m", "entry", "s"]
theorem sc_spread : FnScope N_spread ["row"] (defScope s_spread) := ⟨rfl, rfl, rfl, by decide +kernel, rfl, by decide +kernel, by decide +kernel⟩
abbrev s_gathered : Stmt := topS 17
abbrev N_gathered : List Str := ["s", "m", "entry"]
theorem sc_gathered : FnScope N_gathered ["s", "m", "entry"] (defScope s_gathered) := ⟨rfl, rfl, rfl, by decide +kernel, rfl, by decide +kernel, by decide +kernel⟩
abbrev s_bare_gather : Stmt := topS 16
abbrev N_bare_gather : List Str := ["row", "s", "m"]
theorem sc_bare_gather : FnScope N_bare_gather ["row"] (defScope s_bare_gather) := ⟨rfl, rfl, rfl, by decide +kernel, rfl, by decide +kernel, by decide +kernel⟩
abbrev s_gather : Stmt := topS 15
abbrev N_gather : List Str := ["row"]
theorem sc_gather : FnScope N_gather ["row"] (defScope s_gather) := ⟨rfl, rfl, rfl, by decide +kernel, rfl, by decide +kernel, by decide +kernel⟩
abbrev s_bends : Stmt := topS 18
abbrev N_bends : List Str := ["row", "padded", "s"]
theorem sc_bends : FnScope N_bends ["row"] (defScope s_bends) := ⟨rfl, rfl, rfl, by decide +kernel, rfl, by decide +kernel, by decide +kernel⟩
abbrev s_unbend : Stmt := topS 19
abbrev N_unbend : List Str := ["row", "found", "bend"]
theorem sc_unbend : FnScope N_unbend ["row"] (defScope s_unbend) := ⟨rfl, rfl, rfl, by decide +kernel, rfl, by decide +kernel, by decide +kernel⟩
abbrev s__law_told : Stmt := topS 37
abbrev N__law_told : List Str := ["name", "row", "before", "got", "e", "alone", "kept", "value"]
theorem sc__law_told : FnScope N__law_told ["name", "row"] (defScope s__law_told) := ⟨rfl, rfl, rfl, by decide +kernel, rfl, by decide +kernel, by decide +kernel⟩
abbrev s__law_totals : Stmt := topS 34
abbrev N__law_totals : List Str := ["row", "totals", "total", "value"]
theorem sc__law_totals : FnScope N__law_totals ["row"] (defScope s__law_totals) := ⟨rfl, rfl, rfl, by decide +kernel, rfl, by decide +kernel, by decide +kernel⟩
abbrev s__law_differences : Stmt := topS 33
abbrev N__law_differences : List Str := ["row", "longer", "behind", "k"]
theorem sc__law_differences : FnScope N__law_differences ["row"] (defScope s__law_differences) := ⟨rfl, rfl, rfl, by decide +kernel, rfl, by decide +kernel, by decide +kernel⟩
abbrev s__law_moved : Stmt := topS 32
abbrev N__law_moved : List Str := ["row", "step", "sums", "k", "grown", "j"]
theorem sc__law_moved : FnScope N__law_moved ["row", "step"] (defScope s__law_moved) := ⟨rfl, rfl, rfl, by decide +kernel, rfl, by decide +kernel, by decide +kernel⟩
abbrev s__law_due : Stmt := topS 35
abbrev N__law_due : List Str := ["name", "row", "least", "value", "weight", "k"]
theorem sc__law_due : FnScope N__law_due ["name", "row"] (defScope s__law_due) := ⟨rfl, rfl, rfl, by decide +kernel, rfl, by decide +kernel, by decide +kernel⟩
abbrev s__law_sums_hold : Stmt := topS 38
abbrev N__law_sums_hold : List Str := ["names", "row", "name", "due", "asked"]
theorem sc__law_sums_hold : FnScope N__law_sums_hold ["names", "row"] (defScope s__law_sums_hold) := ⟨rfl, rfl, rfl, by decide +kernel, rfl, by decide +kernel, by decide +kernel⟩
abbrev s__law_spoilt : Stmt := topS 31
abbrev N__law_spoilt : List Str := ["row", "c", "spoilt", "one", "two", "by", "k", "value"]
theorem sc__law_spoilt : FnScope N__law_spoilt ["row", "c"] (defScope s__law_spoilt) := ⟨rfl, rfl, rfl, by decide +kernel, rfl, by decide +kernel, by decide +kernel⟩
abbrev s__law_back_holds : Stmt := topS 39
abbrev N__law_back_holds : List Str := ["row", "one", "two", "told", "inner", "due", "value"]
theorem sc__law_back_holds : FnScope N__law_back_holds ["row"] (defScope s__law_back_holds) := ⟨rfl, rfl, rfl, by decide +kernel, rfl, by decide +kernel, by decide +kernel⟩
abbrev s__law_edged : Stmt := topS 30
abbrev N__law_edged : List Str := ["row", "c", "edged", "one", "two", "value"]
theorem sc__law_edged : FnScope N__law_edged ["row", "c"] (defScope s__law_edged) := ⟨rfl, rfl, rfl, by decide +kernel, rfl, by decide +kernel, by decide +kernel⟩
abbrev s__law_row : Stmt := topS 29
abbrev N__law_row : List Str := ["cells", "many", "span", "base", "rest", "row", "k", "value"]
theorem sc__law_row : FnScope N__law_row ["cells", "many"] (defScope s__law_row) := ⟨rfl, rfl, rfl, by decide +kernel, rfl, by decide +kernel, by decide +kernel⟩
abbrev s__law_length : Stmt := topS 28
abbrev N__law_length : List Str := ["c"]
theorem sc__law_length : FnScope N__law_length ["c"] (defScope s__law_length) := ⟨rfl, rfl, rfl, by decide +kernel, rfl, by decide +kernel, by decide +kernel⟩
abbrev s_law : Stmt := topS 46
abbrev N_law : List Str := ["script", "cells", "row", "edged", "names", "bent", "n"]
theorem sc_law : FnScope N_law ["script"] (defScope s_law) := ⟨rfl, rfl, rfl, by decide +kernel, rfl, by decide +kernel, by decide +kernel⟩
/-- what the top has written -/
structure Tx (K : PySem.W.Frag) (mg : Str → Option Value) where
  a_NoSize : Addr
  i_NoSize : Addr
  fd_NoSize : FuncData
  g_NoSize : mg "NoSize" = some (.ref a_NoSize)
  X_NoSize : ErT K a_NoSize i_NoSize "size"
  F_NoSize : Fun K "__init__" "NoSize.__init__" s_NoSize i_NoSize fd_NoSize
  a_TooFar : Addr
  i_TooFar : Addr
  fd_TooFar : FuncData
  g_TooFar : mg "TooFar" = some (.ref a_TooFar)
  X_TooFar : ErT K a_TooFar i_TooFar "value"
  F_TooFar : Fun K "__init__" "TooFar.__init__" s_TooFar i_TooFar fd_TooFar
  a_WrongCount : Addr
  i_WrongCount : Addr
  fd_WrongCount : FuncData
  g_WrongCount : mg "WrongCount" = some (.ref a_WrongCount)
  X_WrongCount : ErT K a_WrongCount i_WrongCount "count"
  F_WrongCount : Fun K "__init__" "WrongCount.__init__" s_WrongCount i_WrongCount fd_WrongCount
  a_WrongRow : Addr
  i_WrongRow : Addr
  fd_WrongRow : FuncData
  g_WrongRow : mg "WrongRow" = some (.ref a_WrongRow)
  X_WrongRow : ErT K a_WrongRow i_WrongRow "form"
  F_WrongRow : Fun K "__init__" "WrongRow.__init__" s_WrongRow i_WrongRow fd_WrongRow
  a_BowlError : Addr
  g_BowlError : mg "BowlError" = some (.ref a_BowlError)
  gn : PySem.W.specialIn K (.builtin "object.__class__") "__get__" = some (some (.builtin "getset_descriptor.__get__"))
  tkc : PySem.W.takesIn K (.builtin "object.__class__") = some true
  a__law_whole : Addr
  fd__law_whole : FuncData
  F__law_whole : Fun K "_law_whole" "_law_whole" s__law_whole a__law_whole fd__law_whole
  g__law_whole : mg "_law_whole" = some (.ref a__law_whole)
  a_check_size : Addr
  fd_check_size : FuncData
  F_check_size : Fun K "check_size" "check_size" s_check_size a_check_size fd_check_size
  g_check_size : mg "check_size" = some (.ref a_check_size)
  a_check_range : Addr
  fd_check_range : FuncData
  F_check_range : Fun K "check_range" "check_range" s_check_range a_check_range fd_check_range
  g_check_range : mg "check_range" = some (.ref a_check_range)
  a_first_behind : Addr
  fd_first_behind : FuncData
  F_first_behind : Fun K "first_behind" "first_behind" s_first_behind a_first_behind fd_first_behind
  g_first_behind : mg "first_behind" = some (.ref a_first_behind)
  a_subset_list : Addr
  fd_subset_list : FuncData
  F_subset_list : Fun K "subset_list" "subset_list" s_subset_list a_subset_list fd_subset_list
  g_subset_list : mg "subset_list" = some (.ref a_subset_list)
  a_subsets : Addr
  fd_subsets : FuncData
  F_subsets : Fun K "subsets" "subsets" s_subsets a_subsets fd_subsets
  g_subsets : mg "subsets" = some (.ref a_subsets)
  a__law_listed : Addr
  fd__law_listed : FuncData
  F__law_listed : Fun K "_law_listed" "_law_listed" s__law_listed a__law_listed fd__law_listed
  g__law_listed : mg "_law_listed" = some (.ref a__law_listed)
  a_choose : Addr
  fd_choose : FuncData
  F_choose : Fun K "choose" "choose" s_choose a_choose fd_choose
  g_choose : mg "choose" = some (.ref a_choose)
  a__law_chosen : Addr
  fd__law_chosen : FuncData
  F__law_chosen : Fun K "_law_chosen" "_law_chosen" s__law_chosen a__law_chosen fd__law_chosen
  g__law_chosen : mg "_law_chosen" = some (.ref a__law_chosen)
  a__law_grown : Addr
  fd__law_grown : FuncData
  F__law_grown : Fun K "_law_grown" "_law_grown" s__law_grown a__law_grown fd__law_grown
  g__law_grown : mg "_law_grown" = some (.ref a__law_grown)
  a__law_subsets_hold : Addr
  fd__law_subsets_hold : FuncData
  F__law_subsets_hold : Fun K "_law_subsets_hold" "_law_subsets_hold" s__law_subsets_hold a__law_subsets_hold fd__law_subsets_hold
  g__law_subsets_hold : mg "_law_subsets_hold" = some (.ref a__law_subsets_hold)
  a__law_cell : Addr
  fd__law_cell : FuncData
  F__law_cell : Fun K "_law_cell" "_law_cell" s__law_cell a__law_cell fd__law_cell
  g__law_cell : mg "_law_cell" = some (.ref a__law_cell)
  a__law_pascal : Addr
  fd__law_pascal : FuncData
  F__law_pascal : Fun K "_law_pascal" "_law_pascal" s__law_pascal a__law_pascal fd__law_pascal
  g__law_pascal : mg "_law_pascal" = some (.ref a__law_pascal)
  a__law_choice_holds : Addr
  fd__law_choice_holds : FuncData
  F__law_choice_holds : Fun K "_law_choice_holds" "_law_choice_holds" s__law_choice_holds a__law_choice_holds fd__law_choice_holds
  g__law_choice_holds : mg "_law_choice_holds" = some (.ref a__law_choice_holds)
  a_check_count : Addr
  fd_check_count : FuncData
  F_check_count : Fun K "check_count" "check_count" s_check_count a_check_count fd_check_count
  g_check_count : mg "check_count" = some (.ref a_check_count)
  a_check_row : Addr
  fd_check_row : FuncData
  F_check_row : Fun K "check_row" "check_row" s_check_row a_check_row fd_check_row
  g_check_row : mg "check_row" = some (.ref a_check_row)
  a_spread : Addr
  fd_spread : FuncData
  F_spread : Fun K "spread" "spread" s_spread a_spread fd_spread
  g_spread : mg "spread" = some (.ref a_spread)
  a_gathered : Addr
  fd_gathered : FuncData
  F_gathered : Fun K "gathered" "gathered" s_gathered a_gathered fd_gathered
  g_gathered : mg "gathered" = some (.ref a_gathered)
  a_bare_gather : Addr
  fd_bare_gather : FuncData
  F_bare_gather : Fun K "bare_gather" "bare_gather" s_bare_gather a_bare_gather fd_bare_gather
  g_bare_gather : mg "bare_gather" = some (.ref a_bare_gather)
  a_gather : Addr
  fd_gather : FuncData
  F_gather : Fun K "gather" "gather" s_gather a_gather fd_gather
  g_gather : mg "gather" = some (.ref a_gather)
  a_bends : Addr
  fd_bends : FuncData
  F_bends : Fun K "bends" "bends" s_bends a_bends fd_bends
  g_bends : mg "bends" = some (.ref a_bends)
  a_unbend : Addr
  fd_unbend : FuncData
  F_unbend : Fun K "unbend" "unbend" s_unbend a_unbend fd_unbend
  g_unbend : mg "unbend" = some (.ref a_unbend)
  a__law_told : Addr
  fd__law_told : FuncData
  F__law_told : Fun K "_law_told" "_law_told" s__law_told a__law_told fd__law_told
  g__law_told : mg "_law_told" = some (.ref a__law_told)
  a__law_totals : Addr
  fd__law_totals : FuncData
  F__law_totals : Fun K "_law_totals" "_law_totals" s__law_totals a__law_totals fd__law_totals
  g__law_totals : mg "_law_totals" = some (.ref a__law_totals)
  a__law_differences : Addr
  fd__law_differences : FuncData
  F__law_differences : Fun K "_law_differences" "_law_differences" s__law_differences a__law_differences fd__law_differences
  g__law_differences : mg "_law_differences" = some (.ref a__law_differences)
  a__law_moved : Addr
  fd__law_moved : FuncData
  F__law_moved : Fun K "_law_moved" "_law_moved" s__law_moved a__law_moved fd__law_moved
  g__law_moved : mg "_law_moved" = some (.ref a__law_moved)
  a__law_due : Addr
  fd__law_due : FuncData
  F__law_due : Fun K "_law_due" "_law_due" s__law_due a__law_due fd__law_due
  g__law_due : mg "_law_due" = some (.ref a__law_due)
  a__law_sums_hold : Addr
  fd__law_sums_hold : FuncData
  F__law_sums_hold : Fun K "_law_sums_hold" "_law_sums_hold" s__law_sums_hold a__law_sums_hold fd__law_sums_hold
  g__law_sums_hold : mg "_law_sums_hold" = some (.ref a__law_sums_hold)
  a__law_spoilt : Addr
  fd__law_spoilt : FuncData
  F__law_spoilt : Fun K "_law_spoilt" "_law_spoilt" s__law_spoilt a__law_spoilt fd__law_spoilt
  g__law_spoilt : mg "_law_spoilt" = some (.ref a__law_spoilt)
  a__law_back_holds : Addr
  fd__law_back_holds : FuncData
  F__law_back_holds : Fun K "_law_back_holds" "_law_back_holds" s__law_back_holds a__law_back_holds fd__law_back_holds
  g__law_back_holds : mg "_law_back_holds" = some (.ref a__law_back_holds)
  a__law_edged : Addr
  fd__law_edged : FuncData
  F__law_edged : Fun K "_law_edged" "_law_edged" s__law_edged a__law_edged fd__law_edged
  g__law_edged : mg "_law_edged" = some (.ref a__law_edged)
  a__law_row : Addr
  fd__law_row : FuncData
  F__law_row : Fun K "_law_row" "_law_row" s__law_row a__law_row fd__law_row
  g__law_row : mg "_law_row" = some (.ref a__law_row)
  a__law_length : Addr
  fd__law_length : FuncData
  F__law_length : Fun K "_law_length" "_law_length" s__law_length a__law_length fd__law_length
  g__law_length : mg "_law_length" = some (.ref a__law_length)
  a_law : Addr
  fd_law : FuncData
  F_law : Fun K "law" "law" s_law a_law fd_law
  g_law : mg "law" = some (.ref a_law)
  u_MOST_ENTRIES : Value
  g_MOST_ENTRIES : mg "MOST_ENTRIES" = some u_MOST_ENTRIES
  r_MOST_ENTRIES : RelV (.int 64) u_MOST_ENTRIES
  u_FARTHEST_ENTRY : Value
  g_FARTHEST_ENTRY : mg "FARTHEST_ENTRY" = some u_FARTHEST_ENTRY
  r_FARTHEST_ENTRY : RelV (.int 10000000000000000000000000000000000000000) u_FARTHEST_ENTRY
  g_comb : mg "comb" = some (.builtin "math.comb")
  z_ValueError : mg "ValueError" = none
  z_abs : mg "abs" = none
  z_bool : mg "bool" = none
  z_enumerate : mg "enumerate" = none
  z_int : mg "int" = none
  z_isinstance : mg "isinstance" = none
  z_len : mg "len" = none
  z_list : mg "list" = none
  z_max : mg "max" = none
  z_range : mg "range" = none
  z_sum : mg "sum" = none
  z_tuple : mg "tuple" = none
  k_WrongCount_BowlError : PySem.W.kitOne K (.ref a_WrongCount) (.ref a_BowlError) = some true
  k_WrongCount_ValueError : PySem.W.kitOne K (.ref a_WrongCount) (.type "ValueError") = some true
  k_TooFar_BowlError : PySem.W.kitOne K (.ref a_TooFar) (.ref a_BowlError) = some true
  k_TooFar_ValueError : PySem.W.kitOne K (.ref a_TooFar) (.type "ValueError") = some true
  k_NoSize_BowlError : PySem.W.kitOne K (.ref a_NoSize) (.ref a_BowlError) = some true
  k_NoSize_ValueError : PySem.W.kitOne K (.ref a_NoSize) (.type "ValueError") = some true
  k_WrongRow_BowlError : PySem.W.kitOne K (.ref a_WrongRow) (.ref a_BowlError) = some true
  k_WrongRow_ValueError : PySem.W.kitOne K (.ref a_WrongRow) (.type "ValueError") = some true
  k_WrongCount_TooFar_WrongRow : PySem.W.kitAny K (.ref a_WrongCount) [.ref a_TooFar, .ref a_WrongRow] = some false
  k_TooFar_WrongCount_WrongRow : PySem.W.kitAny K (.ref a_TooFar) [.ref a_WrongCount, .ref a_WrongRow] = some false
  k_WrongRow_TooFar_WrongCount : PySem.W.kitAny K (.ref a_WrongRow) [.ref a_TooFar, .ref a_WrongCount] = some false
  k_TooFar_NoSize_WrongCount : PySem.W.kitAny K (.ref a_TooFar) [.ref a_NoSize, .ref a_WrongCount] = some false
  k_NoSize_TooFar_WrongCount : PySem.W.kitAny K (.ref a_NoSize) [.ref a_TooFar, .ref a_WrongCount] = some false
  p_TooFar : PySem.W.subIn K (.ref a_TooFar) (.type "StopIteration") = some false
  p_NoSize : PySem.W.subIn K (.ref a_NoSize) (.type "StopIteration") = some false
  x_WrongCount_WrongCount : PySem.W.exmOne K (.ref a_WrongCount) (.ref a_WrongCount) = some true
  x_TooFar_WrongCount : PySem.W.exmOne K (.ref a_TooFar) (.ref a_WrongCount) = some false
  x_TooFar_TooFar : PySem.W.exmOne K (.ref a_TooFar) (.ref a_TooFar) = some true
  x_WrongRow_WrongCount : PySem.W.exmOne K (.ref a_WrongRow) (.ref a_WrongCount) = some false
  x_WrongRow_TooFar : PySem.W.exmOne K (.ref a_WrongRow) (.ref a_TooFar) = some false
  x_WrongRow_WrongRow : PySem.W.exmOne K (.ref a_WrongRow) (.ref a_WrongRow) = some true
  x_NoSize_TooFar : PySem.W.exmOne K (.ref a_NoSize) (.ref a_TooFar) = some false
  x_NoSize_NoSize : PySem.W.exmOne K (.ref a_NoSize) (.ref a_NoSize) = some true
def Tx.M {K : PySem.W.Frag} {mg : Str → Option Value} (T : Tx K mg) : EC → Addr
  | .NoSize => T.a_NoSize
  | .TooFar => T.a_TooFar
  | .WrongCount => T.a_WrongCount
  | .WrongRow => T.a_WrongRow
  | _ => 0
theorem b_NoSize {K : PySem.W.Frag} {mg : Str → Option Value} (T : Tx K mg) : Binds K T.fd_NoSize ["self", "size"] [] := T.F_NoSize.binds (ps := ["self", "size"]) fun _ _ _ _ _ _ us hl => match us, hl with | [_, _], _ => rfl
theorem b_TooFar {K : PySem.W.Frag} {mg : Str → Option Value} (T : Tx K mg) : Binds K T.fd_TooFar ["self", "value"] [] := T.F_TooFar.binds (ps := ["self", "value"]) fun _ _ _ _ _ _ us hl => match us, hl with | [_, _], _ => rfl
theorem b_WrongCount {K : PySem.W.Frag} {mg : Str → Option Value} (T : Tx K mg) : Binds K T.fd_WrongCount ["self", "count"] [] := T.F_WrongCount.binds (ps := ["self", "count"]) fun _ _ _ _ _ _ us hl => match us, hl with | [_, _], _ => rfl
theorem b_WrongRow {K : PySem.W.Frag} {mg : Str → Option Value} (T : Tx K mg) : Binds K T.fd_WrongRow ["self", "form"] [] := T.F_WrongRow.binds (ps := ["self", "form"]) fun _ _ _ _ _ _ us hl => match us, hl with | [_, _], _ => rfl
theorem b__law_whole {K : PySem.W.Frag} {mg : Str → Option Value} (T : Tx K mg) : Binds K T.fd__law_whole ["thing"] [] := T.F__law_whole.binds (ps := ["thing"]) fun _ _ _ _ _ _ us hl => match us, hl with | [_], _ => rfl
theorem b_check_size {K : PySem.W.Frag} {mg : Str → Option Value} (T : Tx K mg) : Binds K T.fd_check_size ["size", "least", "most"] [] := T.F_check_size.binds (ps := ["size", "least", "most"]) fun _ _ _ _ _ _ us hl => match us, hl with | [_, _, _], _ => rfl
theorem b_check_range {K : PySem.W.Frag} {mg : Str → Option Value} (T : Tx K mg) : Binds K T.fd_check_range ["value", "least", "most"] [] := T.F_check_range.binds (ps := ["value", "least", "most"]) fun _ _ _ _ _ _ us hl => match us, hl with | [_, _, _], _ => rfl
theorem b_first_behind {K : PySem.W.Frag} {mg : Str → Option Value} (T : Tx K mg) : Binds K T.fd_first_behind ["part"] [] := T.F_first_behind.binds (ps := ["part"]) fun _ _ _ _ _ _ us hl => match us, hl with | [_], _ => rfl
theorem b_subset_list {K : PySem.W.Frag} {mg : Str → Option Value} (T : Tx K mg) : Binds K T.fd_subset_list ["n", "size"] [] := T.F_subset_list.binds (ps := ["n", "size"]) fun _ _ _ _ _ _ us hl => match us, hl with | [_, _], _ => rfl
theorem b_subsets {K : PySem.W.Frag} {mg : Str → Option Value} (T : Tx K mg) : Binds K T.fd_subsets ["n", "size"] [] := T.F_subsets.binds (ps := ["n", "size"]) fun _ _ _ _ _ _ us hl => match us, hl with | [_, _], _ => rfl
theorem b__law_listed {K : PySem.W.Frag} {mg : Str → Option Value} (T : Tx K mg) : Binds K T.fd__law_listed ["n", "size"] [] := T.F__law_listed.binds (ps := ["n", "size"]) fun _ _ _ _ _ _ us hl => match us, hl with | [_, _], _ => rfl
theorem b_choose {K : PySem.W.Frag} {mg : Str → Option Value} (T : Tx K mg) : Binds K T.fd_choose ["n", "k"] [] := T.F_choose.binds (ps := ["n", "k"]) fun _ _ _ _ _ _ us hl => match us, hl with | [_, _], _ => rfl
theorem b__law_chosen {K : PySem.W.Frag} {mg : Str → Option Value} (T : Tx K mg) : Binds K T.fd__law_chosen ["n", "k"] [] := T.F__law_chosen.binds (ps := ["n", "k"]) fun _ _ _ _ _ _ us hl => match us, hl with | [_, _], _ => rfl
theorem b__law_grown {K : PySem.W.Frag} {mg : Str → Option Value} (T : Tx K mg) : Binds K T.fd__law_grown ["n", "size"] [] := T.F__law_grown.binds (ps := ["n", "size"]) fun _ _ _ _ _ _ us hl => match us, hl with | [_, _], _ => rfl
theorem b__law_subsets_hold {K : PySem.W.Frag} {mg : Str → Option Value} (T : Tx K mg) : Binds K T.fd__law_subsets_hold ["n", "size"] [] := T.F__law_subsets_hold.binds (ps := ["n", "size"]) fun _ _ _ _ _ _ us hl => match us, hl with | [_, _], _ => rfl
theorem b__law_cell {K : PySem.W.Frag} {mg : Str → Option Value} (T : Tx K mg) : Binds K T.fd__law_cell ["cells", "place"] [] := T.F__law_cell.binds (ps := ["cells", "place"]) fun _ _ _ _ _ _ us hl => match us, hl with | [_, _], _ => rfl
theorem b__law_pascal {K : PySem.W.Frag} {mg : Str → Option Value} (T : Tx K mg) : Binds K T.fd__law_pascal ["n"] [] := T.F__law_pascal.binds (ps := ["n"]) fun _ _ _ _ _ _ us hl => match us, hl with | [_], _ => rfl
theorem b__law_choice_holds {K : PySem.W.Frag} {mg : Str → Option Value} (T : Tx K mg) : Binds K T.fd__law_choice_holds ["n", "k"] [] := T.F__law_choice_holds.binds (ps := ["n", "k"]) fun _ _ _ _ _ _ us hl => match us, hl with | [_, _], _ => rfl
theorem b_check_count {K : PySem.W.Frag} {mg : Str → Option Value} (T : Tx K mg) : Binds K T.fd_check_count ["members", "least", "most"] [] := T.F_check_count.binds (ps := ["members", "least", "most"]) fun _ _ _ _ _ _ us hl => match us, hl with | [_, _, _], _ => rfl
theorem b_check_row {K : PySem.W.Frag} {mg : Str → Option Value} (T : Tx K mg) : Binds K T.fd_check_row ["row", "least"] [] := T.F_check_row.binds (ps := ["row", "least"]) fun _ _ _ _ _ _ us hl => match us, hl with | [_, _], _ => rfl
theorem b_spread {K : PySem.W.Frag} {mg : Str → Option Value} (T : Tx K mg) : Binds K T.fd_spread ["row"] [] := T.F_spread.binds (ps := ["row"]) fun _ _ _ _ _ _ us hl => match us, hl with | [_], _ => rfl
theorem b_gathered {K : PySem.W.Frag} {mg : Str → Option Value} (T : Tx K mg) : Binds K T.fd_gathered ["s", "m", "entry"] [] := T.F_gathered.binds (ps := ["s", "m", "entry"]) fun _ _ _ _ _ _ us hl => match us, hl with | [_, _, _], _ => rfl
theorem b_bare_gather {K : PySem.W.Frag} {mg : Str → Option Value} (T : Tx K mg) : Binds K T.fd_bare_gather ["row"] [] := T.F_bare_gather.binds (ps := ["row"]) fun _ _ _ _ _ _ us hl => match us, hl with | [_], _ => rfl
theorem b_gather {K : PySem.W.Frag} {mg : Str → Option Value} (T : Tx K mg) : Binds K T.fd_gather ["row"] [] := T.F_gather.binds (ps := ["row"]) fun _ _ _ _ _ _ us hl => match us, hl with | [_], _ => rfl
theorem b_bends {K : PySem.W.Frag} {mg : Str → Option Value} (T : Tx K mg) : Binds K T.fd_bends ["row"] [] := T.F_bends.binds (ps := ["row"]) fun _ _ _ _ _ _ us hl => match us, hl with | [_], _ => rfl
theorem b_unbend {K : PySem.W.Frag} {mg : Str → Option Value} (T : Tx K mg) : Binds K T.fd_unbend ["row"] [] := T.F_unbend.binds (ps := ["row"]) fun _ _ _ _ _ _ us hl => match us, hl with | [_], _ => rfl
theorem b__law_told {K : PySem.W.Frag} {mg : Str → Option Value} (T : Tx K mg) : Binds K T.fd__law_told ["name", "row"] [] := T.F__law_told.binds (ps := ["name", "row"]) fun _ _ _ _ _ _ us hl => match us, hl with | [_, _], _ => rfl
theorem b__law_totals {K : PySem.W.Frag} {mg : Str → Option Value} (T : Tx K mg) : Binds K T.fd__law_totals ["row"] [] := T.F__law_totals.binds (ps := ["row"]) fun _ _ _ _ _ _ us hl => match us, hl with | [_], _ => rfl
theorem b__law_differences {K : PySem.W.Frag} {mg : Str → Option Value} (T : Tx K mg) : Binds K T.fd__law_differences ["row"] [] := T.F__law_differences.binds (ps := ["row"]) fun _ _ _ _ _ _ us hl => match us, hl with | [_], _ => rfl
theorem b__law_moved {K : PySem.W.Frag} {mg : Str → Option Value} (T : Tx K mg) : Binds K T.fd__law_moved ["row", "step"] [] := T.F__law_moved.binds (ps := ["row", "step"]) fun _ _ _ _ _ _ us hl => match us, hl with | [_, _], _ => rfl
theorem b__law_due {K : PySem.W.Frag} {mg : Str → Option Value} (T : Tx K mg) : Binds K T.fd__law_due ["name", "row"] [] := T.F__law_due.binds (ps := ["name", "row"]) fun _ _ _ _ _ _ us hl => match us, hl with | [_, _], _ => rfl
theorem b__law_sums_hold {K : PySem.W.Frag} {mg : Str → Option Value} (T : Tx K mg) : Binds K T.fd__law_sums_hold ["names", "row"] [] := T.F__law_sums_hold.binds (ps := ["names", "row"]) fun _ _ _ _ _ _ us hl => match us, hl with | [_, _], _ => rfl
theorem b__law_spoilt {K : PySem.W.Frag} {mg : Str → Option Value} (T : Tx K mg) : Binds K T.fd__law_spoilt ["row", "c"] [] := T.F__law_spoilt.binds (ps := ["row", "c"]) fun _ _ _ _ _ _ us hl => match us, hl with | [_, _], _ => rfl
theorem b__law_back_holds {K : PySem.W.Frag} {mg : Str → Option Value} (T : Tx K mg) : Binds K T.fd__law_back_holds ["row"] [] := T.F__law_back_holds.binds (ps := ["row"]) fun _ _ _ _ _ _ us hl => match us, hl with | [_], _ => rfl
theorem b__law_edged {K : PySem.W.Frag} {mg : Str → Option Value} (T : Tx K mg) : Binds K T.fd__law_edged ["row", "c"] [] := T.F__law_edged.binds (ps := ["row", "c"]) fun _ _ _ _ _ _ us hl => match us, hl with | [_, _], _ => rfl
theorem b__law_row {K : PySem.W.Frag} {mg : Str → Option Value} (T : Tx K mg) : Binds K T.fd__law_row ["cells", "many"] [] := T.F__law_row.binds (ps := ["cells", "many"]) fun _ _ _ _ _ _ us hl => match us, hl with | [_, _], _ => rfl
theorem b__law_length {K : PySem.W.Frag} {mg : Str → Option Value} (T : Tx K mg) : Binds K T.fd__law_length ["c"] [] := T.F__law_length.binds (ps := ["c"]) fun _ _ _ _ _ _ us hl => match us, hl with | [_], _ => rfl
theorem b_law {K : PySem.W.Frag} {mg : Str → Option Value} (T : Tx K mg) : Binds K T.fd_law ["script"] [] := T.F_law.binds (ps := ["script"]) fun _ _ _ _ _ _ us hl => match us, hl with | [_], _ => rfl
theorem mk_tx {K : PySem.W.Frag} {h : Heap} {mg : Str → Option Value} {a_NoSize i_NoSize a_TooFar i_TooFar a_WrongCount i_WrongCount a_WrongRow i_WrongRow a_BowlError a__law_whole a_check_size a_check_range a_first_behind a_subset_list a_subsets a__law_listed a_choose a__law_chosen a__law_grown a__law_subsets_hold a__law_cell a__law_pascal a__law_choice_holds a_check_count a_check_row a_spread a_gathered a_bare_gather a_gather a_bends a_unbend a__law_told a__law_totals a__law_differences a__law_moved a__law_due a__law_sums_hold a__law_spoilt a__law_back_holds a__law_edged a__law_row a__law_length a_law : Addr} (X : K.In h) (G : h.Ns mainGlobals mg)
    {nm_NoSize q_NoSize : Str} {N_NoSize : Addr} {bs_NoSize bm_NoSize : List Value} {sn_NoSize : List Str} {sub_NoSize : List Value} {ab_NoSize : Bool} {col_NoSize : Option Bool} {dd_NoSize : Option Addr} {m0_NoSize m1_NoSize m2_NoSize m3_NoSize m5_NoSize : Option Value}
    {od_NoSize an_NoSize : Option Addr} {sl_NoSize : Array (Option Value)} {oc_NoSize kV_NoSize dc_NoSize pm_NoSize cd_NoSize ct_NoSize : Value}
    {nm_TooFar q_TooFar : Str} {N_TooFar : Addr} {bs_TooFar bm_TooFar : List Value} {sn_TooFar : List Str} {sub_TooFar : List Value} {ab_TooFar : Bool} {col_TooFar : Option Bool} {dd_TooFar : Option Addr} {m0_TooFar m1_TooFar m2_TooFar m3_TooFar m5_TooFar : Option Value}
    {od_TooFar an_TooFar : Option Addr} {sl_TooFar : Array (Option Value)} {oc_TooFar kV_TooFar dc_TooFar pm_TooFar cd_TooFar ct_TooFar : Value}
    {nm_WrongCount q_WrongCount : Str} {N_WrongCount : Addr} {bs_WrongCount bm_WrongCount : List Value} {sn_WrongCount : List Str} {sub_WrongCount : List Value} {ab_WrongCount : Bool} {col_WrongCount : Option Bool} {dd_WrongCount : Option Addr} {m0_WrongCount m1_WrongCount m2_WrongCount m3_WrongCount m5_WrongCount : Option Value}
    {od_WrongCount an_WrongCount : Option Addr} {sl_WrongCount : Array (Option Value)} {oc_WrongCount kV_WrongCount dc_WrongCount pm_WrongCount cd_WrongCount ct_WrongCount : Value}
    {nm_WrongRow q_WrongRow : Str} {N_WrongRow : Addr} {bs_WrongRow bm_WrongRow : List Value} {sn_WrongRow : List Str} {sub_WrongRow : List Value} {ab_WrongRow : Bool} {col_WrongRow : Option Bool} {dd_WrongRow : Option Addr} {m0_WrongRow m1_WrongRow m2_WrongRow m3_WrongRow m5_WrongRow : Option Value}
    {od_WrongRow an_WrongRow : Option Addr} {sl_WrongRow : Array (Option Value)} {oc_WrongRow kV_WrongRow dc_WrongRow pm_WrongRow cd_WrongRow ct_WrongRow : Value}
    {od__law_whole an__law_whole : Option Addr} {sl__law_whole : Array (Option Value)} {oc__law_whole kV__law_whole dc__law_whole pm__law_whole cd__law_whole ct__law_whole : Value}
    {od_check_size an_check_size : Option Addr} {sl_check_size : Array (Option Value)} {oc_check_size kV_check_size dc_check_size pm_check_size cd_check_size ct_check_size : Value}
    {od_check_range an_check_range : Option Addr} {sl_check_range : Array (Option Value)} {oc_check_range kV_check_range dc_check_range pm_check_range cd_check_range ct_check_range : Value}
    {od_first_behind an_first_behind : Option Addr} {sl_first_behind : Array (Option Value)} {oc_first_behind kV_first_behind dc_first_behind pm_first_behind cd_first_behind ct_first_behind : Value}
    {od_subset_list an_subset_list : Option Addr} {sl_subset_list : Array (Option Value)} {oc_subset_list kV_subset_list dc_subset_list pm_subset_list cd_subset_list ct_subset_list : Value}
    {od_subsets an_subsets : Option Addr} {sl_subsets : Array (Option Value)} {oc_subsets kV_subsets dc_subsets pm_subsets cd_subsets ct_subsets : Value}
    {od__law_listed an__law_listed : Option Addr} {sl__law_listed : Array (Option Value)} {oc__law_listed kV__law_listed dc__law_listed pm__law_listed cd__law_listed ct__law_listed : Value}
    {od_choose an_choose : Option Addr} {sl_choose : Array (Option Value)} {oc_choose kV_choose dc_choose pm_choose cd_choose ct_choose : Value}
    {od__law_chosen an__law_chosen : Option Addr} {sl__law_chosen : Array (Option Value)} {oc__law_chosen kV__law_chosen dc__law_chosen pm__law_chosen cd__law_chosen ct__law_chosen : Value}
    {od__law_grown an__law_grown : Option Addr} {sl__law_grown : Array (Option Value)} {oc__law_grown kV__law_grown dc__law_grown pm__law_grown cd__law_grown ct__law_grown : Value}
    {od__law_subsets_hold an__law_subsets_hold : Option Addr} {sl__law_subsets_hold : Array (Option Value)} {oc__law_subsets_hold kV__law_subsets_hold dc__law_subsets_hold pm__law_subsets_hold cd__law_subsets_hold ct__law_subsets_hold : Value}
    {od__law_cell an__law_cell : Option Addr} {sl__law_cell : Array (Option Value)} {oc__law_cell kV__law_cell dc__law_cell pm__law_cell cd__law_cell ct__law_cell : Value}
    {od__law_pascal an__law_pascal : Option Addr} {sl__law_pascal : Array (Option Value)} {oc__law_pascal kV__law_pascal dc__law_pascal pm__law_pascal cd__law_pascal ct__law_pascal : Value}
    {od__law_choice_holds an__law_choice_holds : Option Addr} {sl__law_choice_holds : Array (Option Value)} {oc__law_choice_holds kV__law_choice_holds dc__law_choice_holds pm__law_choice_holds cd__law_choice_holds ct__law_choice_holds : Value}
    {od_check_count an_check_count : Option Addr} {sl_check_count : Array (Option Value)} {oc_check_count kV_check_count dc_check_count pm_check_count cd_check_count ct_check_count : Value}
    {od_check_row an_check_row : Option Addr} {sl_check_row : Array (Option Value)} {oc_check_row kV_check_row dc_check_row pm_check_row cd_check_row ct_check_row : Value}
    {od_spread an_spread : Option Addr} {sl_spread : Array (Option Value)} {oc_spread kV_spread dc_spread pm_spread cd_spread ct_spread : Value}
    {od_gathered an_gathered : Option Addr} {sl_gathered : Array (Option Value)} {oc_gathered kV_gathered dc_gathered pm_gathered cd_gathered ct_gathered : Value}
    {od_bare_gather an_bare_gather : Option Addr} {sl_bare_gather : Array (Option Value)} {oc_bare_gather kV_bare_gather dc_bare_gather pm_bare_gather cd_bare_gather ct_bare_gather : Value}
    {od_gather an_gather : Option Addr} {sl_gather : Array (Option Value)} {oc_gather kV_gather dc_gather pm_gather cd_gather ct_gather : Value}
    {od_bends an_bends : Option Addr} {sl_bends : Array (Option Value)} {oc_bends kV_bends dc_bends pm_bends cd_bends ct_bends : Value}
    {od_unbend an_unbend : Option Addr} {sl_unbend : Array (Option Value)} {oc_unbend kV_unbend dc_unbend pm_unbend cd_unbend ct_unbend : Value}
    {od__law_told an__law_told : Option Addr} {sl__law_told : Array (Option Value)} {oc__law_told kV__law_told dc__law_told pm__law_told cd__law_told ct__law_told : Value}
    {od__law_totals an__law_totals : Option Addr} {sl__law_totals : Array (Option Value)} {oc__law_totals kV__law_totals dc__law_totals pm__law_totals cd__law_totals ct__law_totals : Value}
    {od__law_differences an__law_differences : Option Addr} {sl__law_differences : Array (Option Value)} {oc__law_differences kV__law_differences dc__law_differences pm__law_differences cd__law_differences ct__law_differences : Value}
    {od__law_moved an__law_moved : Option Addr} {sl__law_moved : Array (Option Value)} {oc__law_moved kV__law_moved dc__law_moved pm__law_moved cd__law_moved ct__law_moved : Value}
    {od__law_due an__law_due : Option Addr} {sl__law_due : Array (Option Value)} {oc__law_due kV__law_due dc__law_due pm__law_due cd__law_due ct__law_due : Value}
    {od__law_sums_hold an__law_sums_hold : Option Addr} {sl__law_sums_hold : Array (Option Value)} {oc__law_sums_hold kV__law_sums_hold dc__law_sums_hold pm__law_sums_hold cd__law_sums_hold ct__law_sums_hold : Value}
    {od__law_spoilt an__law_spoilt : Option Addr} {sl__law_spoilt : Array (Option Value)} {oc__law_spoilt kV__law_spoilt dc__law_spoilt pm__law_spoilt cd__law_spoilt ct__law_spoilt : Value}
    {od__law_back_holds an__law_back_holds : Option Addr} {sl__law_back_holds : Array (Option Value)} {oc__law_back_holds kV__law_back_holds dc__law_back_holds pm__law_back_holds cd__law_back_holds ct__law_back_holds : Value}
    {od__law_edged an__law_edged : Option Addr} {sl__law_edged : Array (Option Value)} {oc__law_edged kV__law_edged dc__law_edged pm__law_edged cd__law_edged ct__law_edged : Value}
    {od__law_row an__law_row : Option Addr} {sl__law_row : Array (Option Value)} {oc__law_row kV__law_row dc__law_row pm__law_row cd__law_row ct__law_row : Value}
    {od__law_length an__law_length : Option Addr} {sl__law_length : Array (Option Value)} {oc__law_length kV__law_length dc__law_length pm__law_length cd__law_length ct__law_length : Value}
    {od_law an_law : Option Addr} {sl_law : Array (Option Value)} {oc_law kV_law dc_law pm_law cd_law ct_law : Value}
    {tk_MOST_ENTRIES : Tok}
    {tk_FARTHEST_ENTRY : Tok}
    (n_FARTHEST_ENTRY : mg "FARTHEST_ENTRY" = some (.int 10000000000000000000000000000000000000000 tk_FARTHEST_ENTRY))
    (n_NoSize : PySem.W.nsIn K mainGlobals "NoSize" = some (some (.ref a_NoSize)))
    (o_NoSize : K.lookup a_NoSize = some (excClassObj nm_NoSize q_NoSize a_NoSize N_NoSize bs_NoSize bm_NoSize true sn_NoSize sub_NoSize ab_NoSize col_NoSize dd_NoSize m0_NoSize m1_NoSize m2_NoSize m3_NoSize m5_NoSize "ValueError.__new__"))
    (v_NoSize : PySem.HandSPX.refsVE bm_NoSize = true)
    (sa_NoSize : PySem.W.findIn K (.ref a_NoSize) "__setattr__" = some (some (.builtin "object.__setattr__")))
    (sb_NoSize : PySem.W.subIn K (.ref a_NoSize) (.type "BaseException") = some true)
    (ty_NoSize : PySem.W.typeIn K (.ref a_NoSize) = some (.type "type"))
    (kc_NoSize : PySem.W.keepIn K (.ref a_NoSize) = true)
    (ii_NoSize : PySem.W.findIn K (.ref a_NoSize) "__init__" = some (some (.ref i_NoSize)))
    (ti_NoSize : PySem.W.typeIn K (.ref i_NoSize) = some (.type "function"))
    (nf_NoSize : PySem.W.findIn K (.ref a_NoSize) "size" = some none)
    (ga_NoSize : PySem.W.findIn K (.ref a_NoSize) "__getattribute__" = some (some (.builtin "BaseException.__getattribute__")))
    (gt_NoSize : PySem.W.findIn K (.ref a_NoSize) "__getattr__" = some none)
    (hd_NoSize : PySem.W.hasDictIn K a_NoSize = true)
    (is_NoSize : PySem.W.isClsIn K a_NoSize = true)
    (ca_NoSize : PySem.W.findIn K (.ref a_NoSize) "__class__" = some (some (.builtin "object.__class__")))
    (mo_NoSize : PySem.W.mroIn K a_NoSize (.type "object") = some true)
    (l_NoSize : K.lookup i_NoSize = some ⟨oc_NoSize, od_NoSize, .func (PySem.W.fnOf "__init__" "NoSize.__init__" (defArgs s_NoSize) (defBody s_NoSize) (defScope s_NoSize) .none kV_NoSize dc_NoSize pm_NoSize an_NoSize cd_NoSize ct_NoSize), sl_NoSize⟩)
    (c_NoSize : PySem.W.codeIn K cd_NoSize "NoSize.__init__" = true)
    (kp_NoSize : PySem.W.keepIn K (.ref i_NoSize) = true)
    (n_TooFar : PySem.W.nsIn K mainGlobals "TooFar" = some (some (.ref a_TooFar)))
    (o_TooFar : K.lookup a_TooFar = some (excClassObj nm_TooFar q_TooFar a_TooFar N_TooFar bs_TooFar bm_TooFar true sn_TooFar sub_TooFar ab_TooFar col_TooFar dd_TooFar m0_TooFar m1_TooFar m2_TooFar m3_TooFar m5_TooFar "ValueError.__new__"))
    (v_TooFar : PySem.HandSPX.refsVE bm_TooFar = true)
    (sa_TooFar : PySem.W.findIn K (.ref a_TooFar) "__setattr__" = some (some (.builtin "object.__setattr__")))
    (sb_TooFar : PySem.W.subIn K (.ref a_TooFar) (.type "BaseException") = some true)
    (ty_TooFar : PySem.W.typeIn K (.ref a_TooFar) = some (.type "type"))
    (kc_TooFar : PySem.W.keepIn K (.ref a_TooFar) = true)
    (ii_TooFar : PySem.W.findIn K (.ref a_TooFar) "__init__" = some (some (.ref i_TooFar)))
    (ti_TooFar : PySem.W.typeIn K (.ref i_TooFar) = some (.type "function"))
    (nf_TooFar : PySem.W.findIn K (.ref a_TooFar) "value" = some none)
    (ga_TooFar : PySem.W.findIn K (.ref a_TooFar) "__getattribute__" = some (some (.builtin "BaseException.__getattribute__")))
    (gt_TooFar : PySem.W.findIn K (.ref a_TooFar) "__getattr__" = some none)
    (hd_TooFar : PySem.W.hasDictIn K a_TooFar = true)
    (is_TooFar : PySem.W.isClsIn K a_TooFar = true)
    (ca_TooFar : PySem.W.findIn K (.ref a_TooFar) "__class__" = some (some (.builtin "object.__class__")))
    (mo_TooFar : PySem.W.mroIn K a_TooFar (.type "object") = some true)
    (l_TooFar : K.lookup i_TooFar = some ⟨oc_TooFar, od_TooFar, .func (PySem.W.fnOf "__init__" "TooFar.__init__" (defArgs s_TooFar) (defBody s_TooFar) (defScope s_TooFar) .none kV_TooFar dc_TooFar pm_TooFar an_TooFar cd_TooFar ct_TooFar), sl_TooFar⟩)
    (c_TooFar : PySem.W.codeIn K cd_TooFar "TooFar.__init__" = true)
    (kp_TooFar : PySem.W.keepIn K (.ref i_TooFar) = true)
    (n_WrongCount : PySem.W.nsIn K mainGlobals "WrongCount" = some (some (.ref a_WrongCount)))
    (o_WrongCount : K.lookup a_WrongCount = some (excClassObj nm_WrongCount q_WrongCount a_WrongCount N_WrongCount bs_WrongCount bm_WrongCount true sn_WrongCount sub_WrongCount ab_WrongCount col_WrongCount dd_WrongCount m0_WrongCount m1_WrongCount m2_WrongCount m3_WrongCount m5_WrongCount "ValueError.__new__"))
    (v_WrongCount : PySem.HandSPX.refsVE bm_WrongCount = true)
    (sa_WrongCount : PySem.W.findIn K (.ref a_WrongCount) "__setattr__" = some (some (.builtin "object.__setattr__")))
    (sb_WrongCount : PySem.W.subIn K (.ref a_WrongCount) (.type "BaseException") = some true)
    (ty_WrongCount : PySem.W.typeIn K (.ref a_WrongCount) = some (.type "type"))
    (kc_WrongCount : PySem.W.keepIn K (.ref a_WrongCount) = true)
    (ii_WrongCount : PySem.W.findIn K (.ref a_WrongCount) "__init__" = some (some (.ref i_WrongCount)))
    (ti_WrongCount : PySem.W.typeIn K (.ref i_WrongCount) = some (.type "function"))
    (nf_WrongCount : PySem.W.findIn K (.ref a_WrongCount) "count" = some none)
    (ga_WrongCount : PySem.W.findIn K (.ref a_WrongCount) "__getattribute__" = some (some (.builtin "BaseException.__getattribute__")))
    (gt_WrongCount : PySem.W.findIn K (.ref a_WrongCount) "__getattr__" = some none)
    (hd_WrongCount : PySem.W.hasDictIn K a_WrongCount = true)
    (is_WrongCount : PySem.W.isClsIn K a_WrongCount = true)
    (ca_WrongCount : PySem.W.findIn K (.ref a_WrongCount) "__class__" = some (some (.builtin "object.__class__")))
    (mo_WrongCount : PySem.W.mroIn K a_WrongCount (.type "object") = some true)
    (l_WrongCount : K.lookup i_WrongCount = some ⟨oc_WrongCount, od_WrongCount, .func (PySem.W.fnOf "__init__" "WrongCount.__init__" (defArgs s_WrongCount) (defBody s_WrongCount) (defScope s_WrongCount) .none kV_WrongCount dc_WrongCount pm_WrongCount an_WrongCount cd_WrongCount ct_WrongCount), sl_WrongCount⟩)
    (c_WrongCount : PySem.W.codeIn K cd_WrongCount "WrongCount.__init__" = true)
    (kp_WrongCount : PySem.W.keepIn K (.ref i_WrongCount) = true)
    (n_WrongRow : PySem.W.nsIn K mainGlobals "WrongRow" = some (some (.ref a_WrongRow)))
    (o_WrongRow : K.lookup a_WrongRow = some (excClassObj nm_WrongRow q_WrongRow a_WrongRow N_WrongRow bs_WrongRow bm_WrongRow true sn_WrongRow sub_WrongRow ab_WrongRow col_WrongRow dd_WrongRow m0_WrongRow m1_WrongRow m2_WrongRow m3_WrongRow m5_WrongRow "ValueError.__new__"))
    (v_WrongRow : PySem.HandSPX.refsVE bm_WrongRow = true)
    (sa_WrongRow : PySem.W.findIn K (.ref a_WrongRow) "__setattr__" = some (some (.builtin "object.__setattr__")))
    (sb_WrongRow : PySem.W.subIn K (.ref a_WrongRow) (.type "BaseException") = some true)
    (ty_WrongRow : PySem.W.typeIn K (.ref a_WrongRow) = some (.type "type"))
    (kc_WrongRow : PySem.W.keepIn K (.ref a_WrongRow) = true)
    (ii_WrongRow : PySem.W.findIn K (.ref a_WrongRow) "__init__" = some (some (.ref i_WrongRow)))
    (ti_WrongRow : PySem.W.typeIn K (.ref i_WrongRow) = some (.type "function"))
    (nf_WrongRow : PySem.W.findIn K (.ref a_WrongRow) "form" = some none)
    (ga_WrongRow : PySem.W.findIn K (.ref a_WrongRow) "__getattribute__" = some (some (.builtin "BaseException.__getattribute__")))
    (gt_WrongRow : PySem.W.findIn K (.ref a_WrongRow) "__getattr__" = some none)
    (hd_WrongRow : PySem.W.hasDictIn K a_WrongRow = true)
    (is_WrongRow : PySem.W.isClsIn K a_WrongRow = true)
    (ca_WrongRow : PySem.W.findIn K (.ref a_WrongRow) "__class__" = some (some (.builtin "object.__class__")))
    (mo_WrongRow : PySem.W.mroIn K a_WrongRow (.type "object") = some true)
    (l_WrongRow : K.lookup i_WrongRow = some ⟨oc_WrongRow, od_WrongRow, .func (PySem.W.fnOf "__init__" "WrongRow.__init__" (defArgs s_WrongRow) (defBody s_WrongRow) (defScope s_WrongRow) .none kV_WrongRow dc_WrongRow pm_WrongRow an_WrongRow cd_WrongRow ct_WrongRow), sl_WrongRow⟩)
    (c_WrongRow : PySem.W.codeIn K cd_WrongRow "WrongRow.__init__" = true)
    (kp_WrongRow : PySem.W.keepIn K (.ref i_WrongRow) = true)
    (n_BowlError : PySem.W.nsIn K mainGlobals "BowlError" = some (some (.ref a_BowlError)))
    (is_BowlError : PySem.W.isClsIn K a_BowlError = true)
    (ty_BowlError : PySem.W.typeIn K (.ref a_BowlError) = some (.type "type"))
    (gn : PySem.W.specialIn K (.builtin "object.__class__") "__get__" = some (some (.builtin "getset_descriptor.__get__")))
    (tkc : PySem.W.takesIn K (.builtin "object.__class__") = some true)
    (n__law_whole : PySem.W.nsIn K mainGlobals "_law_whole" = some (some (.ref a__law_whole)))
    (l__law_whole : K.lookup a__law_whole = some ⟨oc__law_whole, od__law_whole, .func (PySem.W.fnOf "_law_whole" "_law_whole" (defArgs s__law_whole) (defBody s__law_whole) (defScope s__law_whole) .none kV__law_whole dc__law_whole pm__law_whole an__law_whole cd__law_whole ct__law_whole), sl__law_whole⟩)
    (c__law_whole : PySem.W.codeIn K cd__law_whole "_law_whole" = true)
    (kp__law_whole : PySem.W.keepIn K (.ref a__law_whole) = true)
    (n_check_size : PySem.W.nsIn K mainGlobals "check_size" = some (some (.ref a_check_size)))
    (l_check_size : K.lookup a_check_size = some ⟨oc_check_size, od_check_size, .func (PySem.W.fnOf "check_size" "check_size" (defArgs s_check_size) (defBody s_check_size) (defScope s_check_size) .none kV_check_size dc_check_size pm_check_size an_check_size cd_check_size ct_check_size), sl_check_size⟩)
    (c_check_size : PySem.W.codeIn K cd_check_size "check_size" = true)
    (kp_check_size : PySem.W.keepIn K (.ref a_check_size) = true)
    (n_check_range : PySem.W.nsIn K mainGlobals "check_range" = some (some (.ref a_check_range)))
    (l_check_range : K.lookup a_check_range = some ⟨oc_check_range, od_check_range, .func (PySem.W.fnOf "check_range" "check_range" (defArgs s_check_range) (defBody s_check_range) (defScope s_check_range) .none kV_check_range dc_check_range pm_check_range an_check_range cd_check_range ct_check_range), sl_check_range⟩)
    (c_check_range : PySem.W.codeIn K cd_check_range "check_range" = true)
    (kp_check_range : PySem.W.keepIn K (.ref a_check_range) = true)
    (n_first_behind : PySem.W.nsIn K mainGlobals "first_behind" = some (some (.ref a_first_behind)))
    (l_first_behind : K.lookup a_first_behind = some ⟨oc_first_behind, od_first_behind, .func (PySem.W.fnOf "first_behind" "first_behind" (defArgs s_first_behind) (defBody s_first_behind) (defScope s_first_behind) .none kV_first_behind dc_first_behind pm_first_behind an_first_behind cd_first_behind ct_first_behind), sl_first_behind⟩)
    (c_first_behind : PySem.W.codeIn K cd_first_behind "first_behind" = true)
    (kp_first_behind : PySem.W.keepIn K (.ref a_first_behind) = true)
    (n_subset_list : PySem.W.nsIn K mainGlobals "subset_list" = some (some (.ref a_subset_list)))
    (l_subset_list : K.lookup a_subset_list = some ⟨oc_subset_list, od_subset_list, .func (PySem.W.fnOf "subset_list" "subset_list" (defArgs s_subset_list) (defBody s_subset_list) (defScope s_subset_list) .none kV_subset_list dc_subset_list pm_subset_list an_subset_list cd_subset_list ct_subset_list), sl_subset_list⟩)
    (c_subset_list : PySem.W.codeIn K cd_subset_list "subset_list" = true)
    (kp_subset_list : PySem.W.keepIn K (.ref a_subset_list) = true)
    (n_subsets : PySem.W.nsIn K mainGlobals "subsets" = some (some (.ref a_subsets)))
    (l_subsets : K.lookup a_subsets = some ⟨oc_subsets, od_subsets, .func (PySem.W.fnOf "subsets" "subsets" (defArgs s_subsets) (defBody s_subsets) (defScope s_subsets) .none kV_subsets dc_subsets pm_subsets an_subsets cd_subsets ct_subsets), sl_subsets⟩)
    (c_subsets : PySem.W.codeIn K cd_subsets "subsets" = true)
    (kp_subsets : PySem.W.keepIn K (.ref a_subsets) = true)
    (n__law_listed : PySem.W.nsIn K mainGlobals "_law_listed" = some (some (.ref a__law_listed)))
    (l__law_listed : K.lookup a__law_listed = some ⟨oc__law_listed, od__law_listed, .func (PySem.W.fnOf "_law_listed" "_law_listed" (defArgs s__law_listed) (defBody s__law_listed) (defScope s__law_listed) .none kV__law_listed dc__law_listed pm__law_listed an__law_listed cd__law_listed ct__law_listed), sl__law_listed⟩)
    (c__law_listed : PySem.W.codeIn K cd__law_listed "_law_listed" = true)
    (kp__law_listed : PySem.W.keepIn K (.ref a__law_listed) = true)
    (n_choose : PySem.W.nsIn K mainGlobals "choose" = some (some (.ref a_choose)))
    (l_choose : K.lookup a_choose = some ⟨oc_choose, od_choose, .func (PySem.W.fnOf "choose" "choose" (defArgs s_choose) (defBody s_choose) (defScope s_choose) .none kV_choose dc_choose pm_choose an_choose cd_choose ct_choose), sl_choose⟩)
    (c_choose : PySem.W.codeIn K cd_choose "choose" = true)
    (kp_choose : PySem.W.keepIn K (.ref a_choose) = true)
    (n__law_chosen : PySem.W.nsIn K mainGlobals "_law_chosen" = some (some (.ref a__law_chosen)))
    (l__law_chosen : K.lookup a__law_chosen = some ⟨oc__law_chosen, od__law_chosen, .func (PySem.W.fnOf "_law_chosen" "_law_chosen" (defArgs s__law_chosen) (defBody s__law_chosen) (defScope s__law_chosen) .none kV__law_chosen dc__law_chosen pm__law_chosen an__law_chosen cd__law_chosen ct__law_chosen), sl__law_chosen⟩)
    (c__law_chosen : PySem.W.codeIn K cd__law_chosen "_law_chosen" = true)
    (kp__law_chosen : PySem.W.keepIn K (.ref a__law_chosen) = true)
    (n__law_grown : PySem.W.nsIn K mainGlobals "_law_grown" = some (some (.ref a__law_grown)))
    (l__law_grown : K.lookup a__law_grown = some ⟨oc__law_grown, od__law_grown, .func (PySem.W.fnOf "_law_grown" "_law_grown" (defArgs s__law_grown) (defBody s__law_grown) (defScope s__law_grown) .none kV__law_grown dc__law_grown pm__law_grown an__law_grown cd__law_grown ct__law_grown), sl__law_grown⟩)
    (c__law_grown : PySem.W.codeIn K cd__law_grown "_law_grown" = true)
    (kp__law_grown : PySem.W.keepIn K (.ref a__law_grown) = true)
    (n__law_subsets_hold : PySem.W.nsIn K mainGlobals "_law_subsets_hold" = some (some (.ref a__law_subsets_hold)))
    (l__law_subsets_hold : K.lookup a__law_subsets_hold = some ⟨oc__law_subsets_hold, od__law_subsets_hold, .func (PySem.W.fnOf "_law_subsets_hold" "_law_subsets_hold" (defArgs s__law_subsets_hold) (defBody s__law_subsets_hold) (defScope s__law_subsets_hold) .none kV__law_subsets_hold dc__law_subsets_hold pm__law_subsets_hold an__law_subsets_hold cd__law_subsets_hold ct__law_subsets_hold), sl__law_subsets_hold⟩)
    (c__law_subsets_hold : PySem.W.codeIn K cd__law_subsets_hold "_law_subsets_hold" = true)
    (kp__law_subsets_hold : PySem.W.keepIn K (.ref a__law_subsets_hold) = true)
    (n__law_cell : PySem.W.nsIn K mainGlobals "_law_cell" = some (some (.ref a__law_cell)))
    (l__law_cell : K.lookup a__law_cell = some ⟨oc__law_cell, od__law_cell, .func (PySem.W.fnOf "_law_cell" "_law_cell" (defArgs s__law_cell) (defBody s__law_cell) (defScope s__law_cell) .none kV__law_cell dc__law_cell pm__law_cell an__law_cell cd__law_cell ct__law_cell), sl__law_cell⟩)
    (c__law_cell : PySem.W.codeIn K cd__law_cell "_law_cell" = true)
    (kp__law_cell : PySem.W.keepIn K (.ref a__law_cell) = true)
    (n__law_pascal : PySem.W.nsIn K mainGlobals "_law_pascal" = some (some (.ref a__law_pascal)))
    (l__law_pascal : K.lookup a__law_pascal = some ⟨oc__law_pascal, od__law_pascal, .func (PySem.W.fnOf "_law_pascal" "_law_pascal" (defArgs s__law_pascal) (defBody s__law_pascal) (defScope s__law_pascal) .none kV__law_pascal dc__law_pascal pm__law_pascal an__law_pascal cd__law_pascal ct__law_pascal), sl__law_pascal⟩)
    (c__law_pascal : PySem.W.codeIn K cd__law_pascal "_law_pascal" = true)
    (kp__law_pascal : PySem.W.keepIn K (.ref a__law_pascal) = true)
    (n__law_choice_holds : PySem.W.nsIn K mainGlobals "_law_choice_holds" = some (some (.ref a__law_choice_holds)))
    (l__law_choice_holds : K.lookup a__law_choice_holds = some ⟨oc__law_choice_holds, od__law_choice_holds, .func (PySem.W.fnOf "_law_choice_holds" "_law_choice_holds" (defArgs s__law_choice_holds) (defBody s__law_choice_holds) (defScope s__law_choice_holds) .none kV__law_choice_holds dc__law_choice_holds pm__law_choice_holds an__law_choice_holds cd__law_choice_holds ct__law_choice_holds), sl__law_choice_holds⟩)
    (c__law_choice_holds : PySem.W.codeIn K cd__law_choice_holds "_law_choice_holds" = true)
    (kp__law_choice_holds : PySem.W.keepIn K (.ref a__law_choice_holds) = true)
    (n_check_count : PySem.W.nsIn K mainGlobals "check_count" = some (some (.ref a_check_count)))
    (l_check_count : K.lookup a_check_count = some ⟨oc_check_count, od_check_count, .func (PySem.W.fnOf "check_count" "check_count" (defArgs s_check_count) (defBody s_check_count) (defScope s_check_count) .none kV_check_count dc_check_count pm_check_count an_check_count cd_check_count ct_check_count), sl_check_count⟩)
    (c_check_count : PySem.W.codeIn K cd_check_count "check_count" = true)
    (kp_check_count : PySem.W.keepIn K (.ref a_check_count) = true)
    (n_check_row : PySem.W.nsIn K mainGlobals "check_row" = some (some (.ref a_check_row)))
    (l_check_row : K.lookup a_check_row = some ⟨oc_check_row, od_check_row, .func (PySem.W.fnOf "check_row" "check_row" (defArgs s_check_row) (defBody s_check_row) (defScope s_check_row) .none kV_check_row dc_check_row pm_check_row an_check_row cd_check_row ct_check_row), sl_check_row⟩)
    (c_check_row : PySem.W.codeIn K cd_check_row "check_row" = true)
    (kp_check_row : PySem.W.keepIn K (.ref a_check_row) = true)
    (n_spread : PySem.W.nsIn K mainGlobals "spread" = some (some (.ref a_spread)))
    (l_spread : K.lookup a_spread = some ⟨oc_spread, od_spread, .func (PySem.W.fnOf "spread" "spread" (defArgs s_spread) (defBody s_spread) (defScope s_spread) .none kV_spread dc_spread pm_spread an_spread cd_spread ct_spread), sl_spread⟩)
    (c_spread : PySem.W.codeIn K cd_spread "spread" = true)
    (kp_spread : PySem.W.keepIn K (.ref a_spread) = true)
    (n_gathered : PySem.W.nsIn K mainGlobals "gathered" = some (some (.ref a_gathered)))
    (l_gathered : K.lookup a_gathered = some ⟨oc_gathered, od_gathered, .func (PySem.W.fnOf "gathered" "gathered" (defArgs s_gathered) (defBody s_gathered) (defScope s_gathered) .none kV_gathered dc_gathered pm_gathered an_gathered cd_gathered ct_gathered), sl_gathered⟩)
    (c_gathered : PySem.W.codeIn K cd_gathered "gathered" = true)
    (kp_gathered : PySem.W.keepIn K (.ref a_gathered) = true)
    (n_bare_gather : PySem.W.nsIn K mainGlobals "bare_gather" = some (some (.ref a_bare_gather)))
    (l_bare_gather : K.lookup a_bare_gather = some ⟨oc_bare_gather, od_bare_gather, .func (PySem.W.fnOf "bare_gather" "bare_gather" (defArgs s_bare_gather) (defBody s_bare_gather) (defScope s_bare_gather) .none kV_bare_gather dc_bare_gather pm_bare_gather an_bare_gather cd_bare_gather ct_bare_gather), sl_bare_gather⟩)
    (c_bare_gather : PySem.W.codeIn K cd_bare_gather "bare_gather" = true)
    (kp_bare_gather : PySem.W.keepIn K (.ref a_bare_gather) = true)
    (n_gather : PySem.W.nsIn K mainGlobals "gather" = some (some (.ref a_gather)))
    (l_gather : K.lookup a_gather = some ⟨oc_gather, od_gather, .func (PySem.W.fnOf "gather" "gather" (defArgs s_gather) (defBody s_gather) (defScope s_gather) .none kV_gather dc_gather pm_gather an_gather cd_gather ct_gather), sl_gather⟩)
    (c_gather : PySem.W.codeIn K cd_gather "gather" = true)
    (kp_gather : PySem.W.keepIn K (.ref a_gather) = true)
    (n_bends : PySem.W.nsIn K mainGlobals "bends" = some (some (.ref a_bends)))
    (l_bends : K.lookup a_bends = some ⟨oc_bends, od_bends, .func (PySem.W.fnOf "bends" "bends" (defArgs s_bends) (defBody s_bends) (defScope s_bends) .none kV_bends dc_bends pm_bends an_bends cd_bends ct_bends), sl_bends⟩)
    (c_bends : PySem.W.codeIn K cd_bends "bends" = true)
    (kp_bends : PySem.W.keepIn K (.ref a_bends) = true)
    (n_unbend : PySem.W.nsIn K mainGlobals "unbend" = some (some (.ref a_unbend)))
    (l_unbend : K.lookup a_unbend = some ⟨oc_unbend, od_unbend, .func (PySem.W.fnOf "unbend" "unbend" (defArgs s_unbend) (defBody s_unbend) (defScope s_unbend) .none kV_unbend dc_unbend pm_unbend an_unbend cd_unbend ct_unbend), sl_unbend⟩)
    (c_unbend : PySem.W.codeIn K cd_unbend "unbend" = true)
    (kp_unbend : PySem.W.keepIn K (.ref a_unbend) = true)
    (n__law_told : PySem.W.nsIn K mainGlobals "_law_told" = some (some (.ref a__law_told)))
    (l__law_told : K.lookup a__law_told = some ⟨oc__law_told, od__law_told, .func (PySem.W.fnOf "_law_told" "_law_told" (defArgs s__law_told) (defBody s__law_told) (defScope s__law_told) .none kV__law_told dc__law_told pm__law_told an__law_told cd__law_told ct__law_told), sl__law_told⟩)
    (c__law_told : PySem.W.codeIn K cd__law_told "_law_told" = true)
    (kp__law_told : PySem.W.keepIn K (.ref a__law_told) = true)
    (n__law_totals : PySem.W.nsIn K mainGlobals "_law_totals" = some (some (.ref a__law_totals)))
    (l__law_totals : K.lookup a__law_totals = some ⟨oc__law_totals, od__law_totals, .func (PySem.W.fnOf "_law_totals" "_law_totals" (defArgs s__law_totals) (defBody s__law_totals) (defScope s__law_totals) .none kV__law_totals dc__law_totals pm__law_totals an__law_totals cd__law_totals ct__law_totals), sl__law_totals⟩)
    (c__law_totals : PySem.W.codeIn K cd__law_totals "_law_totals" = true)
    (kp__law_totals : PySem.W.keepIn K (.ref a__law_totals) = true)
    (n__law_differences : PySem.W.nsIn K mainGlobals "_law_differences" = some (some (.ref a__law_differences)))
    (l__law_differences : K.lookup a__law_differences = some ⟨oc__law_differences, od__law_differences, .func (PySem.W.fnOf "_law_differences" "_law_differences" (defArgs s__law_differences) (defBody s__law_differences) (defScope s__law_differences) .none kV__law_differences dc__law_differences pm__law_differences an__law_differences cd__law_differences ct__law_differences), sl__law_differences⟩)
    (c__law_differences : PySem.W.codeIn K cd__law_differences "_law_differences" = true)
    (kp__law_differences : PySem.W.keepIn K (.ref a__law_differences) = true)
    (n__law_moved : PySem.W.nsIn K mainGlobals "_law_moved" = some (some (.ref a__law_moved)))
    (l__law_moved : K.lookup a__law_moved = some ⟨oc__law_moved, od__law_moved, .func (PySem.W.fnOf "_law_moved" "_law_moved" (defArgs s__law_moved) (defBody s__law_moved) (defScope s__law_moved) .none kV__law_moved dc__law_moved pm__law_moved an__law_moved cd__law_moved ct__law_moved), sl__law_moved⟩)
    (c__law_moved : PySem.W.codeIn K cd__law_moved "_law_moved" = true)
    (kp__law_moved : PySem.W.keepIn K (.ref a__law_moved) = true)
    (n__law_due : PySem.W.nsIn K mainGlobals "_law_due" = some (some (.ref a__law_due)))
    (l__law_due : K.lookup a__law_due = some ⟨oc__law_due, od__law_due, .func (PySem.W.fnOf "_law_due" "_law_due" (defArgs s__law_due) (defBody s__law_due) (defScope s__law_due) .none kV__law_due dc__law_due pm__law_due an__law_due cd__law_due ct__law_due), sl__law_due⟩)
    (c__law_due : PySem.W.codeIn K cd__law_due "_law_due" = true)
    (kp__law_due : PySem.W.keepIn K (.ref a__law_due) = true)
    (n__law_sums_hold : PySem.W.nsIn K mainGlobals "_law_sums_hold" = some (some (.ref a__law_sums_hold)))
    (l__law_sums_hold : K.lookup a__law_sums_hold = some ⟨oc__law_sums_hold, od__law_sums_hold, .func (PySem.W.fnOf "_law_sums_hold" "_law_sums_hold" (defArgs s__law_sums_hold) (defBody s__law_sums_hold) (defScope s__law_sums_hold) .none kV__law_sums_hold dc__law_sums_hold pm__law_sums_hold an__law_sums_hold cd__law_sums_hold ct__law_sums_hold), sl__law_sums_hold⟩)
    (c__law_sums_hold : PySem.W.codeIn K cd__law_sums_hold "_law_sums_hold" = true)
    (kp__law_sums_hold : PySem.W.keepIn K (.ref a__law_sums_hold) = true)
    (n__law_spoilt : PySem.W.nsIn K mainGlobals "_law_spoilt" = some (some (.ref a__law_spoilt)))
    (l__law_spoilt : K.lookup a__law_spoilt = some ⟨oc__law_spoilt, od__law_spoilt, .func (PySem.W.fnOf "_law_spoilt" "_law_spoilt" (defArgs s__law_spoilt) (defBody s__law_spoilt) (defScope s__law_spoilt) .none kV__law_spoilt dc__law_spoilt pm__law_spoilt an__law_spoilt cd__law_spoilt ct__law_spoilt), sl__law_spoilt⟩)
    (c__law_spoilt : PySem.W.codeIn K cd__law_spoilt "_law_spoilt" = true)
    (kp__law_spoilt : PySem.W.keepIn K (.ref a__law_spoilt) = true)
    (n__law_back_holds : PySem.W.nsIn K mainGlobals "_law_back_holds" = some (some (.ref a__law_back_holds)))
    (l__law_back_holds : K.lookup a__law_back_holds = some ⟨oc__law_back_holds, od__law_back_holds, .func (PySem.W.fnOf "_law_back_holds" "_law_back_holds" (defArgs s__law_back_holds) (defBody s__law_back_holds) (defScope s__law_back_holds) .none kV__law_back_holds dc__law_back_holds pm__law_back_holds an__law_back_holds cd__law_back_holds ct__law_back_holds), sl__law_back_holds⟩)
    (c__law_back_holds : PySem.W.codeIn K cd__law_back_holds "_law_back_holds" = true)
    (kp__law_back_holds : PySem.W.keepIn K (.ref a__law_back_holds) = true)
    (n__law_edged : PySem.W.nsIn K mainGlobals "_law_edged" = some (some (.ref a__law_edged)))
    (l__law_edged : K.lookup a__law_edged = some ⟨oc__law_edged, od__law_edged, .func (PySem.W.fnOf "_law_edged" "_law_edged" (defArgs s__law_edged) (defBody s__law_edged) (defScope s__law_edged) .none kV__law_edged dc__law_edged pm__law_edged an__law_edged cd__law_edged ct__law_edged), sl__law_edged⟩)
    (c__law_edged : PySem.W.codeIn K cd__law_edged "_law_edged" = true)
    (kp__law_edged : PySem.W.keepIn K (.ref a__law_edged) = true)
    (n__law_row : PySem.W.nsIn K mainGlobals "_law_row" = some (some (.ref a__law_row)))
    (l__law_row : K.lookup a__law_row = some ⟨oc__law_row, od__law_row, .func (PySem.W.fnOf "_law_row" "_law_row" (defArgs s__law_row) (defBody s__law_row) (defScope s__law_row) .none kV__law_row dc__law_row pm__law_row an__law_row cd__law_row ct__law_row), sl__law_row⟩)
    (c__law_row : PySem.W.codeIn K cd__law_row "_law_row" = true)
    (kp__law_row : PySem.W.keepIn K (.ref a__law_row) = true)
    (n__law_length : PySem.W.nsIn K mainGlobals "_law_length" = some (some (.ref a__law_length)))
    (l__law_length : K.lookup a__law_length = some ⟨oc__law_length, od__law_length, .func (PySem.W.fnOf "_law_length" "_law_length" (defArgs s__law_length) (defBody s__law_length) (defScope s__law_length) .none kV__law_length dc__law_length pm__law_length an__law_length cd__law_length ct__law_length), sl__law_length⟩)
    (c__law_length : PySem.W.codeIn K cd__law_length "_law_length" = true)
    (kp__law_length : PySem.W.keepIn K (.ref a__law_length) = true)
    (n_law : PySem.W.nsIn K mainGlobals "law" = some (some (.ref a_law)))
    (l_law : K.lookup a_law = some ⟨oc_law, od_law, .func (PySem.W.fnOf "law" "law" (defArgs s_law) (defBody s_law) (defScope s_law) .none kV_law dc_law pm_law an_law cd_law ct_law), sl_law⟩)
    (c_law : PySem.W.codeIn K cd_law "law" = true)
    (kp_law : PySem.W.keepIn K (.ref a_law) = true)
    (n_MOST_ENTRIES : PySem.W.nsIn K mainGlobals "MOST_ENTRIES" = some (some (.int 64 tk_MOST_ENTRIES)))
    (n_comb : PySem.W.nsIn K mainGlobals "comb" = some (some (.builtin "math.comb")))
    (z_ValueError : PySem.W.nsIn K mainGlobals "ValueError" = some none)
    (z_abs : PySem.W.nsIn K mainGlobals "abs" = some none)
    (z_bool : PySem.W.nsIn K mainGlobals "bool" = some none)
    (z_enumerate : PySem.W.nsIn K mainGlobals "enumerate" = some none)
    (z_int : PySem.W.nsIn K mainGlobals "int" = some none)
    (z_isinstance : PySem.W.nsIn K mainGlobals "isinstance" = some none)
    (z_len : PySem.W.nsIn K mainGlobals "len" = some none)
    (z_list : PySem.W.nsIn K mainGlobals "list" = some none)
    (z_max : PySem.W.nsIn K mainGlobals "max" = some none)
    (z_range : PySem.W.nsIn K mainGlobals "range" = some none)
    (z_sum : PySem.W.nsIn K mainGlobals "sum" = some none)
    (z_tuple : PySem.W.nsIn K mainGlobals "tuple" = some none)
    (s_WrongCount_BowlError : PySem.W.subIn K (.ref a_WrongCount) (.ref a_BowlError) = some true)
    (s_WrongCount_ValueError : PySem.W.subIn K (.ref a_WrongCount) (.type "ValueError") = some true)
    (s_TooFar_BowlError : PySem.W.subIn K (.ref a_TooFar) (.ref a_BowlError) = some true)
    (s_TooFar_ValueError : PySem.W.subIn K (.ref a_TooFar) (.type "ValueError") = some true)
    (s_NoSize_BowlError : PySem.W.subIn K (.ref a_NoSize) (.ref a_BowlError) = some true)
    (s_NoSize_ValueError : PySem.W.subIn K (.ref a_NoSize) (.type "ValueError") = some true)
    (s_WrongRow_BowlError : PySem.W.subIn K (.ref a_WrongRow) (.ref a_BowlError) = some true)
    (s_WrongRow_ValueError : PySem.W.subIn K (.ref a_WrongRow) (.type "ValueError") = some true)
    (s_WrongCount_WrongCount : PySem.W.subIn K (.ref a_WrongCount) (.ref a_WrongCount) = some true)
    (s_WrongCount_TooFar : PySem.W.subIn K (.ref a_WrongCount) (.ref a_TooFar) = some false)
    (s_WrongCount_WrongRow : PySem.W.subIn K (.ref a_WrongCount) (.ref a_WrongRow) = some false)
    (s_TooFar_TooFar : PySem.W.subIn K (.ref a_TooFar) (.ref a_TooFar) = some true)
    (s_TooFar_WrongCount : PySem.W.subIn K (.ref a_TooFar) (.ref a_WrongCount) = some false)
    (s_TooFar_WrongRow : PySem.W.subIn K (.ref a_TooFar) (.ref a_WrongRow) = some false)
    (s_WrongRow_WrongRow : PySem.W.subIn K (.ref a_WrongRow) (.ref a_WrongRow) = some true)
    (s_WrongRow_TooFar : PySem.W.subIn K (.ref a_WrongRow) (.ref a_TooFar) = some false)
    (s_WrongRow_WrongCount : PySem.W.subIn K (.ref a_WrongRow) (.ref a_WrongCount) = some false)
    (s_TooFar_NoSize : PySem.W.subIn K (.ref a_TooFar) (.ref a_NoSize) = some false)
    (s_NoSize_NoSize : PySem.W.subIn K (.ref a_NoSize) (.ref a_NoSize) = some true)
    (s_NoSize_TooFar : PySem.W.subIn K (.ref a_NoSize) (.ref a_TooFar) = some false)
    (s_NoSize_WrongCount : PySem.W.subIn K (.ref a_NoSize) (.ref a_WrongCount) = some false)
    (p_TooFar : PySem.W.subIn K (.ref a_TooFar) (.type "StopIteration") = some false)
    (p_NoSize : PySem.W.subIn K (.ref a_NoSize) (.type "StopIteration") = some false) :
    ∃ T : Tx K mg, mg "law" = some (.ref T.a_law) :=
  ⟨{ a_NoSize := a_NoSize,
     i_NoSize := i_NoSize,
     fd_NoSize := _,
     g_NoSize := PySem.W.mg_of X G n_NoSize,
     F_NoSize := fun_mk (st := s_NoSize) l_NoSize c_NoSize kp_NoSize,
     X_NoSize := ⟨⟨⟨_, _, _, _, _, _, _, _, _, _, _, _, _, _, _, o_NoSize, v_NoSize⟩, sa_NoSize, sb_NoSize, ty_NoSize, kc_NoSize⟩, ii_NoSize, ti_NoSize, nf_NoSize, ⟨ga_NoSize, gt_NoSize, sb_NoSize, hd_NoSize⟩, ⟨is_NoSize, ga_NoSize, gt_NoSize, sb_NoSize, ca_NoSize, gn, tkc, mo_NoSize⟩⟩,
     a_TooFar := a_TooFar,
     i_TooFar := i_TooFar,
     fd_TooFar := _,
     g_TooFar := PySem.W.mg_of X G n_TooFar,
     F_TooFar := fun_mk (st := s_TooFar) l_TooFar c_TooFar kp_TooFar,
     X_TooFar := ⟨⟨⟨_, _, _, _, _, _, _, _, _, _, _, _, _, _, _, o_TooFar, v_TooFar⟩, sa_TooFar, sb_TooFar, ty_TooFar, kc_TooFar⟩, ii_TooFar, ti_TooFar, nf_TooFar, ⟨ga_TooFar, gt_TooFar, sb_TooFar, hd_TooFar⟩, ⟨is_TooFar, ga_TooFar, gt_TooFar, sb_TooFar, ca_TooFar, gn, tkc, mo_TooFar⟩⟩,
     a_WrongCount := a_WrongCount,
     i_WrongCount := i_WrongCount,
     fd_WrongCount := _,
     g_WrongCount := PySem.W.mg_of X G n_WrongCount,
     F_WrongCount := fun_mk (st := s_WrongCount) l_WrongCount c_WrongCount kp_WrongCount,
     X_WrongCount := ⟨⟨⟨_, _, _, _, _, _, _, _, _, _, _, _, _, _, _, o_WrongCount, v_WrongCount⟩, sa_WrongCount, sb_WrongCount, ty_WrongCount, kc_WrongCount⟩, ii_WrongCount, ti_WrongCount, nf_WrongCount, ⟨ga_WrongCount, gt_WrongCount, sb_WrongCount, hd_WrongCount⟩, ⟨is_WrongCount, ga_WrongCount, gt_WrongCount, sb_WrongCount, ca_WrongCount, gn, tkc, mo_WrongCount⟩⟩,
     a_WrongRow := a_WrongRow,
     i_WrongRow := i_WrongRow,
     fd_WrongRow := _,
     g_WrongRow := PySem.W.mg_of X G n_WrongRow,
     F_WrongRow := fun_mk (st := s_WrongRow) l_WrongRow c_WrongRow kp_WrongRow,
     X_WrongRow := ⟨⟨⟨_, _, _, _, _, _, _, _, _, _, _, _, _, _, _, o_WrongRow, v_WrongRow⟩, sa_WrongRow, sb_WrongRow, ty_WrongRow, kc_WrongRow⟩, ii_WrongRow, ti_WrongRow, nf_WrongRow, ⟨ga_WrongRow, gt_WrongRow, sb_WrongRow, hd_WrongRow⟩, ⟨is_WrongRow, ga_WrongRow, gt_WrongRow, sb_WrongRow, ca_WrongRow, gn, tkc, mo_WrongRow⟩⟩,
     a_BowlError := a_BowlError,
     g_BowlError := PySem.W.mg_of X G n_BowlError,
     gn := gn,
     tkc := tkc,
     fd__law_whole := _,
     F__law_whole := fun_mk (st := s__law_whole) l__law_whole c__law_whole kp__law_whole,
     g__law_whole := PySem.W.mg_of X G n__law_whole,
     a__law_whole := a__law_whole,
     fd_check_size := _,
     F_check_size := fun_mk (st := s_check_size) l_check_size c_check_size kp_check_size,
     g_check_size := PySem.W.mg_of X G n_check_size,
     a_check_size := a_check_size,
     fd_check_range := _,
     F_check_range := fun_mk (st := s_check_range) l_check_range c_check_range kp_check_range,
     g_check_range := PySem.W.mg_of X G n_check_range,
     a_check_range := a_check_range,
     fd_first_behind := _,
     F_first_behind := fun_mk (st := s_first_behind) l_first_behind c_first_behind kp_first_behind,
     g_first_behind := PySem.W.mg_of X G n_first_behind,
     a_first_behind := a_first_behind,
     fd_subset_list := _,
     F_subset_list := fun_mk (st := s_subset_list) l_subset_list c_subset_list kp_subset_list,
     g_subset_list := PySem.W.mg_of X G n_subset_list,
     a_subset_list := a_subset_list,
     fd_subsets := _,
     F_subsets := fun_mk (st := s_subsets) l_subsets c_subsets kp_subsets,
     g_subsets := PySem.W.mg_of X G n_subsets,
     a_subsets := a_subsets,
     fd__law_listed := _,
     F__law_listed := fun_mk (st := s__law_listed) l__law_listed c__law_listed kp__law_listed,
     g__law_listed := PySem.W.mg_of X G n__law_listed,
     a__law_listed := a__law_listed,
     fd_choose := _,
     F_choose := fun_mk (st := s_choose) l_choose c_choose kp_choose,
     g_choose := PySem.W.mg_of X G n_choose,
     a_choose := a_choose,
     fd__law_chosen := _,
     F__law_chosen := fun_mk (st := s__law_chosen) l__law_chosen c__law_chosen kp__law_chosen,
     g__law_chosen := PySem.W.mg_of X G n__law_chosen,
     a__law_chosen := a__law_chosen,
     fd__law_grown := _,
     F__law_grown := fun_mk (st := s__law_grown) l__law_grown c__law_grown kp__law_grown,
     g__law_grown := PySem.W.mg_of X G n__law_grown,
     a__law_grown := a__law_grown,
     fd__law_subsets_hold := _,
     F__law_subsets_hold := fun_mk (st := s__law_subsets_hold) l__law_subsets_hold c__law_subsets_hold kp__law_subsets_hold,
     g__law_subsets_hold := PySem.W.mg_of X G n__law_subsets_hold,
     a__law_subsets_hold := a__law_subsets_hold,
     fd__law_cell := _,
     F__law_cell := fun_mk (st := s__law_cell) l__law_cell c__law_cell kp__law_cell,
     g__law_cell := PySem.W.mg_of X G n__law_cell,
     a__law_cell := a__law_cell,
     fd__law_pascal := _,
     F__law_pascal := fun_mk (st := s__law_pascal) l__law_pascal c__law_pascal kp__law_pascal,
     g__law_pascal := PySem.W.mg_of X G n__law_pascal,
     a__law_pascal := a__law_pascal,
     fd__law_choice_holds := _,
     F__law_choice_holds := fun_mk (st := s__law_choice_holds) l__law_choice_holds c__law_choice_holds kp__law_choice_holds,
     g__law_choice_holds := PySem.W.mg_of X G n__law_choice_holds,
     a__law_choice_holds := a__law_choice_holds,
     fd_check_count := _,
     F_check_count := fun_mk (st := s_check_count) l_check_count c_check_count kp_check_count,
     g_check_count := PySem.W.mg_of X G n_check_count,
     a_check_count := a_check_count,
     fd_check_row := _,
     F_check_row := fun_mk (st := s_check_row) l_check_row c_check_row kp_check_row,
     g_check_row := PySem.W.mg_of X G n_check_row,
     a_check_row := a_check_row,
     fd_spread := _,
     F_spread := fun_mk (st := s_spread) l_spread c_spread kp_spread,
     g_spread := PySem.W.mg_of X G n_spread,
     a_spread := a_spread,
     fd_gathered := _,
     F_gathered := fun_mk (st := s_gathered) l_gathered c_gathered kp_gathered,
     g_gathered := PySem.W.mg_of X G n_gathered,
     a_gathered := a_gathered,
     fd_bare_gather := _,
     F_bare_gather := fun_mk (st := s_bare_gather) l_bare_gather c_bare_gather kp_bare_gather,
     g_bare_gather := PySem.W.mg_of X G n_bare_gather,
     a_bare_gather := a_bare_gather,
     fd_gather := _,
     F_gather := fun_mk (st := s_gather) l_gather c_gather kp_gather,
     g_gather := PySem.W.mg_of X G n_gather,
     a_gather := a_gather,
     fd_bends := _,
     F_bends := fun_mk (st := s_bends) l_bends c_bends kp_bends,
     g_bends := PySem.W.mg_of X G n_bends,
     a_bends := a_bends,
     fd_unbend := _,
     F_unbend := fun_mk (st := s_unbend) l_unbend c_unbend kp_unbend,
     g_unbend := PySem.W.mg_of X G n_unbend,
     a_unbend := a_unbend,
     fd__law_told := _,
     F__law_told := fun_mk (st := s__law_told) l__law_told c__law_told kp__law_told,
     g__law_told := PySem.W.mg_of X G n__law_told,
     a__law_told := a__law_told,
     fd__law_totals := _,
     F__law_totals := fun_mk (st := s__law_totals) l__law_totals c__law_totals kp__law_totals,
     g__law_totals := PySem.W.mg_of X G n__law_totals,
     a__law_totals := a__law_totals,
     fd__law_differences := _,
     F__law_differences := fun_mk (st := s__law_differences) l__law_differences c__law_differences kp__law_differences,
     g__law_differences := PySem.W.mg_of X G n__law_differences,
     a__law_differences := a__law_differences,
     fd__law_moved := _,
     F__law_moved := fun_mk (st := s__law_moved) l__law_moved c__law_moved kp__law_moved,
     g__law_moved := PySem.W.mg_of X G n__law_moved,
     a__law_moved := a__law_moved,
     fd__law_due := _,
     F__law_due := fun_mk (st := s__law_due) l__law_due c__law_due kp__law_due,
     g__law_due := PySem.W.mg_of X G n__law_due,
     a__law_due := a__law_due,
     fd__law_sums_hold := _,
     F__law_sums_hold := fun_mk (st := s__law_sums_hold) l__law_sums_hold c__law_sums_hold kp__law_sums_hold,
     g__law_sums_hold := PySem.W.mg_of X G n__law_sums_hold,
     a__law_sums_hold := a__law_sums_hold,
     fd__law_spoilt := _,
     F__law_spoilt := fun_mk (st := s__law_spoilt) l__law_spoilt c__law_spoilt kp__law_spoilt,
     g__law_spoilt := PySem.W.mg_of X G n__law_spoilt,
     a__law_spoilt := a__law_spoilt,
     fd__law_back_holds := _,
     F__law_back_holds := fun_mk (st := s__law_back_holds) l__law_back_holds c__law_back_holds kp__law_back_holds,
     g__law_back_holds := PySem.W.mg_of X G n__law_back_holds,
     a__law_back_holds := a__law_back_holds,
     fd__law_edged := _,
     F__law_edged := fun_mk (st := s__law_edged) l__law_edged c__law_edged kp__law_edged,
     g__law_edged := PySem.W.mg_of X G n__law_edged,
     a__law_edged := a__law_edged,
     fd__law_row := _,
     F__law_row := fun_mk (st := s__law_row) l__law_row c__law_row kp__law_row,
     g__law_row := PySem.W.mg_of X G n__law_row,
     a__law_row := a__law_row,
     fd__law_length := _,
     F__law_length := fun_mk (st := s__law_length) l__law_length c__law_length kp__law_length,
     g__law_length := PySem.W.mg_of X G n__law_length,
     a__law_length := a__law_length,
     fd_law := _,
     F_law := fun_mk (st := s_law) l_law c_law kp_law,
     g_law := PySem.W.mg_of X G n_law,
     a_law := a_law,
     u_MOST_ENTRIES := _,
     g_MOST_ENTRIES := PySem.W.mg_of X G n_MOST_ENTRIES,
     r_MOST_ENTRIES := ⟨_, rfl⟩,
     u_FARTHEST_ENTRY := _,
     g_FARTHEST_ENTRY := n_FARTHEST_ENTRY,
     r_FARTHEST_ENTRY := ⟨_, rfl⟩,
     g_comb := PySem.W.mg_of X G n_comb,
     z_ValueError := PySem.W.mg_none_of X G z_ValueError,
     z_abs := PySem.W.mg_none_of X G z_abs,
     z_bool := PySem.W.mg_none_of X G z_bool,
     z_enumerate := PySem.W.mg_none_of X G z_enumerate,
     z_int := PySem.W.mg_none_of X G z_int,
     z_isinstance := PySem.W.mg_none_of X G z_isinstance,
     z_len := PySem.W.mg_none_of X G z_len,
     z_list := PySem.W.mg_none_of X G z_list,
     z_max := PySem.W.mg_none_of X G z_max,
     z_range := PySem.W.mg_none_of X G z_range,
     z_sum := PySem.W.mg_none_of X G z_sum,
     z_tuple := PySem.W.mg_none_of X G z_tuple,
     k_WrongCount_BowlError := EB.kit_sub is_BowlError ty_BowlError s_WrongCount_BowlError fun _ => rfl,
     k_WrongCount_ValueError := EB.kit_val s_WrongCount_ValueError,
     k_TooFar_BowlError := EB.kit_sub is_BowlError ty_BowlError s_TooFar_BowlError fun _ => rfl,
     k_TooFar_ValueError := EB.kit_val s_TooFar_ValueError,
     k_NoSize_BowlError := EB.kit_sub is_BowlError ty_BowlError s_NoSize_BowlError fun _ => rfl,
     k_NoSize_ValueError := EB.kit_val s_NoSize_ValueError,
     k_WrongRow_BowlError := EB.kit_sub is_BowlError ty_BowlError s_WrongRow_BowlError fun _ => rfl,
     k_WrongRow_ValueError := EB.kit_val s_WrongRow_ValueError,
     k_WrongCount_TooFar_WrongRow := EB.kit_any2 (EB.kit_off is_TooFar ty_TooFar s_WrongCount_WrongCount s_WrongCount_TooFar) (EB.kit_off is_WrongRow ty_WrongRow s_WrongCount_WrongCount s_WrongCount_WrongRow),
     k_TooFar_WrongCount_WrongRow := EB.kit_any2 (EB.kit_off is_WrongCount ty_WrongCount s_TooFar_TooFar s_TooFar_WrongCount) (EB.kit_off is_WrongRow ty_WrongRow s_TooFar_TooFar s_TooFar_WrongRow),
     k_WrongRow_TooFar_WrongCount := EB.kit_any2 (EB.kit_off is_TooFar ty_TooFar s_WrongRow_WrongRow s_WrongRow_TooFar) (EB.kit_off is_WrongCount ty_WrongCount s_WrongRow_WrongRow s_WrongRow_WrongCount),
     k_TooFar_NoSize_WrongCount := EB.kit_any2 (EB.kit_off is_NoSize ty_NoSize s_TooFar_TooFar s_TooFar_NoSize) (EB.kit_off is_WrongCount ty_WrongCount s_TooFar_TooFar s_TooFar_WrongCount),
     k_NoSize_TooFar_WrongCount := EB.kit_any2 (EB.kit_off is_TooFar ty_TooFar s_NoSize_NoSize s_NoSize_TooFar) (EB.kit_off is_WrongCount ty_WrongCount s_NoSize_NoSize s_NoSize_WrongCount),
     p_TooFar := p_TooFar,
     p_NoSize := p_NoSize,
     x_WrongCount_WrongCount := EB.exm_sub sb_WrongCount is_WrongCount ty_WrongCount s_WrongCount_WrongCount,
     x_TooFar_WrongCount := EB.exm_sub sb_WrongCount is_WrongCount ty_WrongCount s_TooFar_WrongCount,
     x_TooFar_TooFar := EB.exm_sub sb_TooFar is_TooFar ty_TooFar s_TooFar_TooFar,
     x_WrongRow_WrongCount := EB.exm_sub sb_WrongCount is_WrongCount ty_WrongCount s_WrongRow_WrongCount,
     x_WrongRow_TooFar := EB.exm_sub sb_TooFar is_TooFar ty_TooFar s_WrongRow_TooFar,
     x_WrongRow_WrongRow := EB.exm_sub sb_WrongRow is_WrongRow ty_WrongRow s_WrongRow_WrongRow,
     x_NoSize_TooFar := EB.exm_sub sb_TooFar is_TooFar ty_TooFar s_NoSize_TooFar,
     x_NoSize_NoSize := EB.exm_sub sb_NoSize is_NoSize ty_NoSize s_NoSize_NoSize }, PySem.W.mg_of X G n_law⟩
end K02

namespace K02
open PySem PySem.Spec PyProof.Rows L2 Evl EB
theorem ok_WrongCount {P : Program} {w : World} {K : PySem.W.Frag} {mg : Str → Option Value} {base : Heap} (T : Tx K mg) : FnOk P w K mg base CX0 1 T.i_WrongCount T.fd_WrongCount ["self", "count"] (spErr T.a_WrongCount "count") := by
  refine T.F_WrongCount.ok sc_WrongCount (fun vs H Q E h => by obtain ⟨a, u, rfl, _⟩ := h; rfl) (fun cdv A outer s H vs Q E hr h => ?_)
  obtain ⟨a, u, rfl, ha, k⟩ := h
  refine ⟨_, pss_one (ps_ost (pv 0) (pv 1)), ?_⟩
  exact ⟨_, rfl, _, rfl, a, T.a_WrongCount, rfl, T.X_WrongCount.ox, T.X_WrongCount.nf, .inl ⟨ha, k⟩⟩
theorem ok_TooFar {P : Program} {w : World} {K : PySem.W.Frag} {mg : Str → Option Value} {base : Heap} (T : Tx K mg) : FnOk P w K mg base CX0 1 T.i_TooFar T.fd_TooFar ["self", "value"] (spErr T.a_TooFar "value") := by
  refine T.F_TooFar.ok sc_TooFar (fun vs H Q E h => by obtain ⟨a, u, rfl, _⟩ := h; rfl) (fun cdv A outer s H vs Q E hr h => ?_)
  obtain ⟨a, u, rfl, ha, k⟩ := h
  refine ⟨_, pss_one (ps_ost (pv 0) (pv 1)), ?_⟩
  exact ⟨_, rfl, _, rfl, a, T.a_TooFar, rfl, T.X_TooFar.ox, T.X_TooFar.nf, .inl ⟨ha, k⟩⟩
theorem ok_NoSize {P : Program} {w : World} {K : PySem.W.Frag} {mg : Str → Option Value} {base : Heap} (T : Tx K mg) : FnOk P w K mg base CX0 1 T.i_NoSize T.fd_NoSize ["self", "size"] (spErr T.a_NoSize "size") := by
  refine T.F_NoSize.ok sc_NoSize (fun vs H Q E h => by obtain ⟨a, u, rfl, _⟩ := h; rfl) (fun cdv A outer s H vs Q E hr h => ?_)
  obtain ⟨a, u, rfl, ha, k⟩ := h
  refine ⟨_, pss_one (ps_ost (pv 0) (pv 1)), ?_⟩
  exact ⟨_, rfl, _, rfl, a, T.a_NoSize, rfl, T.X_NoSize.ox, T.X_NoSize.nf, .inl ⟨ha, k⟩⟩
theorem ok_WrongRow {P : Program} {w : World} {K : PySem.W.Frag} {mg : Str → Option Value} {base : Heap} (T : Tx K mg) : FnOk P w K mg base CX0 1 T.i_WrongRow T.fd_WrongRow ["self", "form"] (spErr T.a_WrongRow "form") := by
  refine T.F_WrongRow.ok sc_WrongRow (fun vs H Q E h => by obtain ⟨a, u, rfl, _⟩ := h; rfl) (fun cdv A outer s H vs Q E hr h => ?_)
  obtain ⟨a, u, rfl, ha, k⟩ := h
  refine ⟨_, pss_one (ps_ost (pv 0) (pv 1)), ?_⟩
  exact ⟨_, rfl, _, rfl, a, T.a_WrongRow, rfl, T.X_WrongRow.ox, T.X_WrongRow.nf, .inl ⟨ha, k⟩⟩
def inR (lo v hi : Int) : Bool := decide (lo ≤ v) && decide (v ≤ hi)
def sq (b : Bool) (ds : List PyData) : PyData := if b then .list ds else .tuple ds
def args_check_range {K : PySem.W.Frag} {mg : Str → Option Value} (T : Tx K mg) : Int × Int × Int → List PV := fun a => [dv K (.int a.1), dv K (.int a.2.1), dv K (.int a.2.2)]
def dom_check_range : Int × Int × Int → Prop := fun _ => True
def out_check_range {K : PySem.W.Frag} {mg : Str → Option Value} (T : Tx K mg) : Int × Int × Int → Out := fun a => match inR a.2.1 a.1 a.2.2 with | true => .ok (dv K .none) | false => .er ⟨.TooFar, .int a.1⟩
theorem ok_check_range {P : Program} {w : World} {K : PySem.W.Frag} {mg : Str → Option Value} {base : Heap} (T : Tx K mg) : FnOk P w K mg base (L2.CX P w) 3 T.a_check_range T.fd_check_range ["value", "least", "most"] (Prm K T.M (args_check_range T) dom_check_range (out_check_range T)) := by
  refine T.F_check_range.okX sc_check_range (fun vs H Q E h => by obtain ⟨a, F, _, al, _⟩ := h; exact al.length) (fun cdv A outer s H vs Q E hr h => ?_)
  have tk : Takes (cxOf (L2.CX P w) P w K mg base N_check_range "check_range" (defScope s_check_range) T.a_check_range cdv A outer s H E) (fun cls d _ H => E cls d H) := takes_of rfl rfl rfl rfl
  obtain ⟨a, F, fh, al, hd, th⟩ := h
  refine ⟨_, (pss_one (ps_if (pt_not (pt_chain op_le op_le (pv 1) (pv 0) (pv 2))) (pss_one (ps_raise rfl tk (pmk_oex (T.X_TooFar).ox (T.X_TooFar).iC (T.X_TooFar).tI (ok_TooFar T) (hr.mono (by decide)) (b_TooFar T) .nil pass0 (by rfl) T.g_TooFar (pa_cons (pv 0) pa_nil)))) pss_nil)), ?_⟩
  cases hb : inR a.2.1 a.1 a.2.2 with
  | true =>
    refine fin_ok (r := .nx _) (js_if (b := false) (jt_is (jt_not (jt_test (je_chainI (je_var rfl) (je_var rfl) (je_var rfl)))) ?_) (fun z => Bool.noConfusion z) (fun _ => js_next)) ?_ fh al th
    · show (!inR a.2.1 a.1 a.2.2) = false
      rw [hb] <;> rfl
    · show Fin K _ (out_check_range T a)
      unfold out_check_range
      rw [hb] <;> rfl
  | false =>
    refine fin_ok (r := .er ⟨.TooFar, .int a.1⟩) (js_if (b := true) (jt_is (jt_not (jt_test (je_chainI (je_var rfl) (je_var rfl) (je_var rfl)))) ?_) (fun _ => js_raise (M := T.M) (c := .TooFar) (ja_cons (je_var rfl) ja_nil)) (fun z => Bool.noConfusion z)) ?_ fh al th
    · show (!inR a.2.1 a.1 a.2.2) = true
      rw [hb] <;> rfl
    · show Fin K _ (out_check_range T a)
      unfold out_check_range
      rw [hb] <;> rfl
def args_check_count {K : PySem.W.Frag} {mg : Str → Option Value} (T : Tx K mg) : Bool × List PyData × Int × Int → List PV := fun a => [dv K (sq a.1 a.2.1), dv K (.int a.2.2.1), dv K (.int a.2.2.2)]
def dom_check_count : Bool × List PyData × Int × Int → Prop := fun _ => True
def out_check_count {K : PySem.W.Frag} {mg : Str → Option Value} (T : Tx K mg) : Bool × List PyData × Int × Int → Out := fun a => match inR a.2.2.1 a.2.1.length a.2.2.2 with | true => .ok (dv K .none) | false => .er ⟨.WrongCount, .int a.2.1.length⟩
theorem je_lenQ {K : PySem.W.Frag} {M : EC → Addr} {W : WX} {ps : Kn} {te : TE} {b : Bool} {ds : List PyData} (h : JD K M W te ps (sq b ds)) : JD K M W (tCB (rLenS K) (tCons te tNil)) ps (.int ds.length) := by
  cases b with
  | true => exact je_lenL h
  | false => exact je_lenT h
theorem ok_check_count {P : Program} {w : World} {K : PySem.W.Frag} {mg : Str → Option Value} {base : Heap} (T : Tx K mg) : FnOk P w K mg base (L2.CX P w) 3 T.a_check_count T.fd_check_count ["members", "least", "most"] (Prm K T.M (args_check_count T) dom_check_count (out_check_count T)) := by
  refine T.F_check_count.okX sc_check_count (fun vs H Q E h => by obtain ⟨a, F, _, al, _⟩ := h; exact al.length) (fun cdv A outer s H vs Q E hr h => ?_)
  have tk : Takes (cxOf (L2.CX P w) P w K mg base N_check_count "check_count" (defScope s_check_count) T.a_check_count cdv A outer s H E) (fun cls d _ H => E cls d H) := takes_of rfl rfl rfl rfl
  obtain ⟨a, F, fh, al, hd, th⟩ := h
  refine ⟨_, (pss_one (ps_if (pt_not (pt_chain op_le op_le (pv 1) (pe_callB call_len_seq (by rfl) T.z_len PySem.boot_len (pa_cons (pv 0) pa_nil)) (pv 2))) (pss_one (ps_raise rfl tk (pmk_oex (T.X_WrongCount).ox (T.X_WrongCount).iC (T.X_WrongCount).tI (ok_WrongCount T) (hr.mono (by decide)) (b_WrongCount T) .nil pass0 (by rfl) T.g_WrongCount (pa_cons (pe_callB call_len_seq (by rfl) T.z_len PySem.boot_len (pa_cons (pv 0) pa_nil)) pa_nil)))) pss_nil)), ?_⟩
  cases hb : inR a.2.2.1 a.2.1.length a.2.2.2 with
  | true =>
    refine fin_ok (r := .nx _) (js_if (b := false) (jt_is (jt_not (jt_test (je_chainI (je_var rfl) (je_lenQ (je_var rfl)) (je_var rfl)))) ?_) (fun z => Bool.noConfusion z) (fun _ => js_next)) ?_ fh al th
    · show (!inR a.2.2.1 a.2.1.length a.2.2.2) = false
      rw [hb] <;> rfl
    · show Fin K _ (out_check_count T a)
      unfold out_check_count
      rw [hb] <;> rfl
  | false =>
    refine fin_ok (r := .er ⟨.WrongCount, .int a.2.1.length⟩) (js_if (b := true) (jt_is (jt_not (jt_test (je_chainI (je_var rfl) (je_lenQ (je_var rfl)) (je_var rfl)))) ?_) (fun _ => js_raise (M := T.M) (c := .WrongCount) (ja_cons (je_lenQ (je_var rfl)) ja_nil)) (fun z => Bool.noConfusion z)) ?_ fh al th
    · show (!inR a.2.2.1 a.2.1.length a.2.2.2) = true
      rw [hb] <;> rfl
    · show Fin K _ (out_check_count T a)
      unfold out_check_count
      rw [hb] <;> rfl
theorem near_mul {a b : Int} (h : -(2 ^ 63) ≤ a ∧ a ≤ 2 ^ 63) : CMul a b := .inl ⟨by omega, by omega⟩
def args_check_size {K : PySem.W.Frag} {mg : Str → Option Value} (T : Tx K mg) : Int × Int × Int → List PV := fun a => [dv K (.int a.1), dv K (.int a.2.1), dv K (.int a.2.2)]
def dom_check_size : Int × Int × Int → Prop := fun _ => True
def out_check_size {K : PySem.W.Frag} {mg : Str → Option Value} (T : Tx K mg) : Int × Int × Int → Out := fun a => match inR a.2.1 a.1 a.2.2 with | true => .ok (dv K .none) | false => .er ⟨.NoSize, .int a.1⟩
theorem ok_check_size {P : Program} {w : World} {K : PySem.W.Frag} {mg : Str → Option Value} {base : Heap} (T : Tx K mg) : FnOk P w K mg base (L2.CX P w) 3 T.a_check_size T.fd_check_size ["size", "least", "most"] (Prm K T.M (args_check_size T) dom_check_size (out_check_size T)) := by
  refine T.F_check_size.okX sc_check_size (fun vs H Q E h => by obtain ⟨a, F, _, al, _⟩ := h; exact al.length) (fun cdv A outer s H vs Q E hr h => ?_)
  have tk : Takes (cxOf (L2.CX P w) P w K mg base N_check_size "check_size" (defScope s_check_size) T.a_check_size cdv A outer s H E) (fun cls d _ H => E cls d H) := takes_of rfl rfl rfl rfl
  obtain ⟨a, F, fh, al, hd, th⟩ := h
  refine ⟨_, (pss_one (ps_if (pt_not (pt_chain op_le op_le (pv 1) (pv 0) (pv 2))) (pss_one (ps_raise rfl tk (pmk_oex (T.X_NoSize).ox (T.X_NoSize).iC (T.X_NoSize).tI (ok_NoSize T) (hr.mono (by decide)) (b_NoSize T) .nil pass0 (by rfl) T.g_NoSize (pa_cons (pv 0) pa_nil)))) pss_nil)), ?_⟩
  cases hb : inR a.2.1 a.1 a.2.2 with
  | true =>
    refine fin_ok (r := .nx _) (js_if (b := false) (jt_is (jt_not (jt_test (je_chainI (je_var rfl) (je_var rfl) (je_var rfl)))) ?_) (fun z => Bool.noConfusion z) (fun _ => js_next)) ?_ fh al th
    · show (!inR a.2.1 a.1 a.2.2) = false
      rw [hb] <;> rfl
    · show Fin K _ (out_check_size T a)
      unfold out_check_size
      rw [hb] <;> rfl
  | false =>
    refine fin_ok (r := .er ⟨.NoSize, .int a.1⟩) (js_if (b := true) (jt_is (jt_not (jt_test (je_chainI (je_var rfl) (je_var rfl) (je_var rfl)))) ?_) (fun _ => js_raise (M := T.M) (c := .NoSize) (ja_cons (je_var rfl) ja_nil)) (fun z => Bool.noConfusion z)) ?_ fh al th
    · show (!inR a.2.1 a.1 a.2.2) = true
      rw [hb] <;> rfl
    · show Fin K _ (out_check_size T a)
      unfold out_check_size
      rw [hb] <;> rfl
def fb (x : List Int) : Int := match x.getLast? with
  | some k => k + 1
  | none => 0
def subsL (n : Int) : Nat → List (List Int)
  | 0 => [[]]
  | s + 1 => (subsL n s).flatMap fun x => (rg (fb x) (n - fb x).toNat).map fun k => x ++ [k]
def tupI (x : List Int) : PyData := .tuple (x.map .int)
def args_first_behind {K : PySem.W.Frag} {mg : Str → Option Value} (T : Tx K mg) : List Int → List PV := fun x => [dv K (tupI x)]
def dom_first_behind : List Int → Prop := fun _ => True
def out_first_behind {K : PySem.W.Frag} {mg : Str → Option Value} (T : Tx K mg) : List Int → Out := fun x => .ok (dv K (.int (fb x)))
theorem last_at (x : List Int) (k : Int) (h : x.getLast? = some k) : atI (x.map PyData.int) (-1) = some (.int k) := by
  have hx : x = x.dropLast ++ [k] := by
    have hne : x ≠ [] := fun z => by subst z; cases h
    rw [List.getLast?_eq_some_getLast hne] at h
    have := List.dropLast_concat_getLast hne
    rw [Option.some.inj h] at this
    exact this.symm
  rw [hx, List.map_append]
  exact atI_last _ _
theorem ok_first_behind {P : Program} {w : World} {K : PySem.W.Frag} {mg : Str → Option Value} {base : Heap} (T : Tx K mg) : FnOk P w K mg base (L2.CX P w) 1 T.a_first_behind T.fd_first_behind ["part"] (Prm K T.M (args_first_behind T) dom_first_behind (out_first_behind T)) := by
  refine T.F_first_behind.okX sc_first_behind (fun vs H Q E h => by obtain ⟨a, F, _, al, _⟩ := h; exact al.length) (fun cdv A outer s H vs Q E hr h => ?_)
  have tk : Takes (cxOf (L2.CX P w) P w K mg base N_first_behind "first_behind" (defScope s_first_behind) T.a_first_behind cdv A outer s H E) (fun cls d _ H => E cls d H) := takes_of rfl rfl rfl rfl
  obtain ⟨a, F, fh, al, hd, th⟩ := h
  refine ⟨_, (pss_one (ps_ret (pe_ifExp (pt_truth (pv 0) (by intro _; rfl)) (pe_op op_add (pe_ix ix_tup (pv 0) (pe_un un_neg pe_int) (fun _ _ => rfl)) pe_int) pe_int))), ?_⟩
  refine fin_ok (r := .rt (dv K (.int (fb a)))) (js_ret (je_if (jt_truT (ds := a.map .int) (je_var rfl)) (fun z => ?_) (fun z => ?_))) (by exact rfl) fh al th
  · cases hl : a.getLast? with
    | none =>
      rw [List.getLast?_eq_none_iff] at hl
      subst hl
      simp at z
    | some k =>
      rw [show fb a = k + 1 by unfold fb; rw [hl]]
      exact je_add (je_ixT (ds := a.map .int) (je_var rfl) (je_neg je_int) (last_at a k hl)) je_int
  · have e : a = [] := by
      cases a with
      | nil => rfl
      | cons x r => simp at z
    subst e
    exact je_int
def args_subset_list {K : PySem.W.Frag} {mg : Str → Option Value} (T : Tx K mg) : Nat × Nat → List PV := fun a => [dv K (.int a.1), dv K (.int a.2)]
def dom_subset_list : Nat × Nat → Prop := fun a => a.1 ≤ 12 ∧ a.2 ≤ 12
def out_subset_list {K : PySem.W.Frag} {mg : Str → Option Value} (T : Tx K mg) : Nat × Nat → Out := fun a => .ok (dv K (.list ((subsL a.1 a.2).map tupI)))
theorem subs_len {n : Int} : ∀ {s : Nat} {x : List Int}, x ∈ subsL n s → x.length = s
  | 0, x, h => by
    have e : x = [] := by simpa [subsL] using h
    subst e
    rfl
  | s + 1, x, h => by
    obtain ⟨y, hy, hx⟩ := List.mem_flatMap.mp h
    obtain ⟨k, _, e⟩ := List.mem_map.mp hx
    rw [← e, List.length_append, subs_len hy]
    rfl
theorem subs_small : ∀ n : Nat, n < 13 → ∀ s : Nat, s < 14 → ((subsL n s).length ≤ 1000 ∧ (subsL n s).all (fun x => decide (0 ≤ fb x ∧ fb x ≤ n)) = true) := by decide +kernel
theorem subs_next (n : Int) (s : Nat) : ((subsL n s).flatMap fun x => ((rg (fb x) (n - fb x).toNat).filter fun _ => true).map fun k => tupI (x ++ [k])) = (subsL n (s + 1)).map tupI := by
  show _ = ((subsL n s).flatMap fun x => (rg (fb x) (n - fb x).toNat).map fun k => x ++ [k]).map tupI
  rw [List.map_flatMap]
  congr 1
  funext x
  rw [List.map_map, List.filter_eq_self.mpr (fun _ _ => rfl)]
  rfl
theorem ok_subset_list {P : Program} {w : World} {K : PySem.W.Frag} {mg : Str → Option Value} {base : Heap} (T : Tx K mg) : FnOk P w K mg base (L2.CX P w) 2 T.a_subset_list T.fd_subset_list ["n", "size"] (Prm K T.M (args_subset_list T) dom_subset_list (out_subset_list T)) := by
  refine T.F_subset_list.okX sc_subset_list (fun vs H Q E h => by obtain ⟨a, F, _, al, _⟩ := h; exact al.length) (fun cdv A outer s H vs Q E hr h => ?_)
  have tk : Takes (cxOf (L2.CX P w) P w K mg base N_subset_list "subset_list" (defScope s_subset_list) T.a_subset_list cdv A outer s H E) (fun cls d _ H => E cls d H) := takes_of rfl rfl rfl rfl
  obtain ⟨a, F, fh, al, hd, th⟩ := h
  refine ⟨_, (pss_cons (ps_set (i := 2) sc_subset_list.nd rfl (by first | exact Or.inl rfl | exact Or.inr rfl) (pe_lst (pa_cons (pe_tup pa_nil) pa_nil)))
      (pss_cons (ps_for (passes_of rfl) rfl (pi_range1 (by rfl) T.z_range (pa_cons (pv 1) pa_nil)) (pg_name (i := 3) sc_subset_list.nd rfl (by first | exact Or.inl rfl | exact Or.inr rfl)) (pss_one (ps_setLc2 (i := 2) (own := [("part", 4), ("k", 5)]) (g := (gName 4)) (tt := tYes) (te := (tTup (StX.tStar K (tVar 4) (tCons (tVar 5) tNil)))) (wi1 := (iRng2 (tCons (tCallS (Prm K T.M (args_first_behind T) dom_first_behind (out_first_behind T)) (WE fun _ _ _ _ => False) (tCons (tVar 4) tNil)) (tCons (tVar 0) tNil)))) (g1 := (gName 5)) (tt1 := tYes) (vs1 := [5]) rfl sc_subset_list.nd rfl rfl (sw_true rfl rfl rfl (by decide +kernel)) (pi_list (pv 2)) (blkOk_by (N := N_subset_list) (sc := defScope s_subset_list) (own := [("part", 4), ("k", 5)]) (by decide +kernel)) (by decide) (fun _ _ _ _ _ => (pg_name (i := 4) sc_subset_list.nd rfl (by first | exact Or.inl rfl | exact Or.inr rfl))) (fun _ _ _ _ _ => by exact pts_nil) (fun _ _ _ _ _ => by exact (pi_range2 (by rfl) T.z_range (pa_cons (pe_callS (ok_first_behind T) (hr.mono (by decide)) (by rfl) T.g_first_behind T.F_first_behind.kp (b_first_behind T) (fun σ => passAt takes0 σ) (pa_cons (pv 4) pa_nil)) (pa_cons (pv 0) pa_nil)))) (fun _ _ _ _ _ => (pg_name (i := 5) sc_subset_list.nd rfl (by first | exact Or.inl rfl | exact Or.inr rfl))) (fun _ _ _ _ _ => pts_nil) (fun _ _ _ _ _ => by exact (pe_tup (StX.pa_star (pv 4) (pa_cons (pv 5) pa_nil)))))))
      (pss_one (ps_ret (pv 2))))), ?_⟩
  obtain ⟨n, size⟩ := a
  obtain ⟨hn, hs⟩ := hd
  simp only at hn hs
  refine fin_ok (r := .rt (dv K (.list ((subsL n size).map tupI)))) (js_seq (js_set (P := dv K (.list ((subsL n 0).map tupI))) (je_lst (ds := [tupI []]) (ja_cons (je_tup (ds := []) ja_nil) ja_nil))) (js_seq
    (js_for (vs := [3]) (fun i => [some (dv K (.int n)), some (dv K (.int size)), some (dv K (.list ((subsL n i).map tupI))), none, none, none]) size (ji_is (ji_rng1 (ja_cons (je_var rfl) ja_nil) ⟨by omega, by omega⟩) (es := (rg 0 size).map PyData.int) (by simp)) rfl (by rw [List.length_map, rg_length]; exact Nat.le_refl _) (fun i d hi hd => ?_) (.inl ⟨by rw [List.length_map, rg_length], rfl⟩))
    (js_ret (je_var rfl)))) (by exact rfl) fh al th
  have hb := subs_small n (by omega) i (by omega)
  have hb2 := subs_small n (by omega) (i + 1) (by omega)
  refine ⟨_, jg_name, .inl (js_weak (js_set (P := dv K (.list ((subsL n (i + 1)).map tupI))) ?_) ⟨.inr rfl, .inr rfl, .inr rfl, .inl rfl, .inr rfl, .inr rfl, trivial⟩)⟩
  rw [← subs_next]
  refine je_lc2 (W' := fun _ _ _ _ => False) (subsL n i) (fun x => rg (fb x) ((n : Int) - fb x).toNat) tupI .int (fun _ _ => true) (fun x k => tupI (x ++ [k])) (ji_list (je_var rfl)) ?_ fun x hx => ?_
  · rw [subs_next, List.length_map]
    omega
  · have hx2 := of_decide_eq_true (List.all_eq_true.mp hb.2 x hx)
    refine ⟨_, jg_name, jt_yes, ji_rng2 (ja_cons (je_call x (ja_cons (je_var rfl) ja_nil) trivial) (ja_cons (je_var rfl) ja_nil)) ⟨by omega, by omega, by omega, by omega⟩, fun k hk => ⟨_, jg_name, jt_yes, fun _ => ?_⟩⟩
    refine je_tup (ds := (x ++ [k]).map .int) (ja_is (ja_starT (ds := x.map .int) (je_var rfl) (ja_cons (je_var rfl) ja_nil)) ?_) ?_
    · simp
    · have hx3 : x.length = i := subs_len hx
      rw [List.length_map, List.length_append]
      simp
      omega
theorem ji_enumQ {K : PySem.W.Frag} {M : EC → Addr} {W : WX} {ps : Kn} {te : TE} {b : Bool} {ds : List PyData} (h : JD K M W te ps (sq b ds)) : JI K M W (iEnumQ K (tCons te tNil)) ps (nb ds) := by
  cases b with
  | true => exact fun σ F H R fh S k => .inl (ji_enum h σ F H R fh S k)
  | false => exact fun σ F H R fh S k => .inr (ji_enumT h σ F H R fh S k)
theorem je_slQ {K : PySem.W.Frag} {M : EC → Addr} {W : WX} {ps : Kn} {te : TE} {tl th : TO} {lo hi : Option Int} {b : Bool} {ds : List PyData} (h : JD K M W te ps (sq b ds)) (h1 : JO K M W tl ps lo) (h2 : JO K M W th ps hi) : JD K M W (tSl (rSlQ K) te tl th) ps (sq b (cutD ds lo hi)) := by
  cases b with
  | true => exact je_slQL h h1 h2
  | false => exact je_slQT h h1 h2
def outE (K : PySem.W.Frag) : Option Er → Out
  | none => .ok (dv K .none)
  | some e => .er e
theorem first_er {n : Nat} {c : Nat → Option Er} : (List.range n).findSome? (fun i => (c i).map Out.er) = ((List.range n).findSome? c).map Out.er := by
  induction n with
  | zero => rfl
  | succ n ih =>
    rw [List.range_succ, List.findSome?_append, List.findSome?_append, ih]
    cases (List.range n).findSome? c with
    | some e => rfl
    | none =>
      simp only [Option.map_none, Option.none_or, List.findSome?_cons, List.findSome?_nil]
      cases c n <;> rfl
theorem fin_chk {K : PySem.W.Frag} {ps : Kn} : ∀ o : Option Er, Fin K (ends ps (o.map Out.er)) (outE K o)
  | none => rfl
  | some _ => rfl
theorem ji_seqQ {K : PySem.W.Frag} {M : EC → Addr} {W : WX} {ps : Kn} {te : TE} {b : Bool} {ds : List PyData} (h : JD K M W te ps (sq b ds)) : JI K M W (iSeqQ K te) ps ds := by
  cases b with
  | true => exact fun σ F H R fh S k => .inl (ji_list h σ F H R fh S k)
  | false => exact fun σ F H R fh S k => .inr (ji_tup h σ F H R fh S k)
theorem ji_upto {K : PySem.W.Frag} {M : EC → Addr} {W : WX} {ps : Kn} {te : TE} {n : Nat} (h : JD K M W te ps (.int n)) (hn : n ≤ 1000) : JI K M W (iRng1 (tCons te tNil)) ps ((rg 0 n).map PyData.int) := by
  have := ji_rng1 (ja_cons h ja_nil) ⟨by omega, by omega⟩
  rw [Int.toNat_natCast] at this
  exact this
theorem inR_of {lo v hi : Int} (h1 : lo ≤ v) (h2 : v ≤ hi) : inR lo v hi = true := by
  unfold inR
  simp [h1, h2]
theorem je_range {K : PySem.W.Frag} {mg : Str → Option Value} (T : Tx K mg) {W : WX} {ps : Kn} {t1 t2 t3 : TE} {v lo hi : Int} (h1 : JD K T.M W t1 ps (.int v)) (h2 : JD K T.M W t2 ps (.int lo)) (h3 : JD K T.M W t3 ps (.int hi)) (hr : inR lo v hi = true) : JD K T.M W (tCallS (Prm K T.M (args_check_range T) dom_check_range (out_check_range T)) (WE W) (tCons t1 (tCons t2 (tCons t3 tNil)))) ps .none := by
  have := je_call (args := args_check_range T) (dom := dom_check_range) (out := out_check_range T) (v, lo, hi) (ja_cons h1 (ja_cons h2 (ja_cons h3 ja_nil))) trivial
  have e : out_check_range T (v, lo, hi) = .ok (dv K .none) := by
    unfold out_check_range
    dsimp only
    rw [hr]
  rw [e] at this
  exact this
theorem js_out {K : PySem.W.Frag} {M : EC → Addr} {W : WX} {ps : Kn} {te : TE} {o : Option Er} (h : JE K M W te ps (outE K o)) : JS K M W (tDrop te) ps (ends ps (o.map Out.er)) := by
  cases o with
  | none => exact js_drop h
  | some e => exact js_drop h
theorem first_map {α β γ : Type} (f : β → γ) (c : α → Option β) : ∀ l : List α, l.findSome? (fun i => (c i).map f) = (l.findSome? c).map f
  | [] => rfl
  | x :: l => by
    rw [List.findSome?_cons, List.findSome?_cons, first_map f c l]
    cases c x <;> rfl
def nmE : EC → Str
  | .WrongCount => "WrongCount"
  | .TooFar => "TooFar"
  | .NoPoint => "NoPoint"
  | .Repeated => "Repeated"
  | .OnLine => "OnLine"
  | .NoSize => "NoSize"
  | .WrongRow => "WrongRow"
  | _ => ""
def raisedD (e : Er) : PyData := .tuple [.str "raised", .str (nmE e.c), e.val, .bool true]
abbrev suT (K : PySem.W.Frag) (B C C2 C3 : Addr) (nm f : Str) (i j : Nat) : Addr → Value → Option Addr → TS := fun a cls d =>
  tSeq (tAsg (tAndV (tCB (rIsEx K a cls d) (tCons (tVar i) (tCons (tC (.ref B)) tNil))) (tCB (rIsEx K a cls d) (tCons (tVar i) (tCons (tC (.ty "ValueError")) tNil)))) (gName j))
    (tRet (tTup (tCons (tC (.str "raised")) (tCons (tC (.str nm)) (tCons (tXf a cls d C f (tVar i)) (tCons (tAndV (tVar j) (tNotV (tCB (rIsExT K a cls d) (tCons (tVar i) (tCons (tTup (tCons (tC (.ref C2)) (tCons (tC (.ref C3)) tNil))) tNil))))) tNil))))))
theorem suite_std {K : PySem.W.Frag} {M : EC → Addr} {W : WX} {n i j : Nat} {c : EC} {d : PyData} {B C2 C3 : Addr} (hi : i < n) (hj : j < n) (hij : i ≠ j) (X : ExK K (M c)) (h1 : PySem.W.kitOne K (.ref (M c)) (.ref B) = some true) (h2 : PySem.W.kitOne K (.ref (M c)) (.type "ValueError") = some true) (h3 : PySem.W.kitAny K (.ref (M c)) [.ref C2, .ref C3] = some false) :
    Suite K M W n i (suT K B (M c) C2 C3 (nmE c) c.fld i j) ⟨c, d⟩ (dv K (raisedD ⟨c, d⟩)) := fun a dd => by
  have v1 : ((List.replicate n (none : Option PV)).set i (some (exv K a dd c.fld d)))[i]? = some (some (exv K a dd c.fld d)) := List.getElem?_set_self (by rw [List.length_replicate]; exact hi)
  have v2 : (((List.replicate n (none : Option PV)).set i (some (exv K a dd c.fld d))).set j (some (dv K (.bool true))))[i]? = some (some (exv K a dd c.fld d)) := by rw [List.getElem?_set_ne (fun z => hij z.symm)]; exact v1
  have v3 : (((List.replicate n (none : Option PV)).set i (some (exv K a dd c.fld d))).set j (some (dv K (.bool true))))[j]? = some (some (dv K (.bool true))) := List.getElem?_set_self (by rw [List.length_set, List.length_replicate]; exact hj)
  refine js_seq (js_set (P := dv K (.bool true)) (je_andV (a := true) (b := true) (je_isEx (je_var v1) X (.own B) h1) (fun _ => je_isEx (je_var v1) X (.ty "ValueError") h2)))
    (js_ret (je_tup (ds := [.str "raised", .str (nmE c), d, .bool true]) (ja_cons je_str (ja_cons je_str (ja_cons (je_xf (je_var v2)) (ja_cons (je_andV (a := true) (b := true) (je_var v3) (fun _ => je_notV (a := false) (je_isExT2 (je_var v2) X h3))) ja_nil))))))
def asgR (ps : Kn) (i : Nat) : Out → Res
  | .ok P => .nx (ps.set i (some P))
  | .er e => .er e
theorem js_setO {K : PySem.W.Frag} {M : EC → Addr} {W : WX} {ps : Kn} {te : TE} {i : Nat} {o : Out} (h : JE K M W te ps o) : JS K M W (tAsg te (gName i)) ps (asgR ps i o) := by
  cases o with
  | ok P => exact js_set h
  | er e => exact js_set_er h
theorem first_ix {α β : Type} (f : α → Option β) (xs : List α) : (List.range xs.length).findSome? (fun i => xs[i]?.bind f) = xs.findSome? f := by
  induction xs with
  | nil => rfl
  | cons a r ih =>
    rw [List.length_cons, List.range_succ_eq_map, List.findSome?_cons, List.findSome?_map, List.findSome?_cons]
    have : ((fun i => (a :: r)[i]?.bind f) ∘ Nat.succ) = fun i => r[i]?.bind f := by
      funext i
      simp
    rw [this, ih]
    simp
theorem js_endsO {K : PySem.W.Frag} {M : EC → Addr} {W : WX} {ts : TS} {ps rs qs : Kn} {o : Option Out} (h : JS K M W ts ps (ends rs o)) (w : Weak rs qs) : JS K M W ts ps (ends qs o) := by
  cases o with
  | none => exact js_weak h w
  | some e => exact h
theorem js_first {K : PySem.W.Frag} {M : EC → Addr} {W : WX} {ps : Kn} {vs : List Nat} {wi : TI} {g : TG} {tb : TS} {α β : Type} (L : List α) (enc : α → PyData) (f : α → Option β) (h : β → Out) (hi : JI K M W wi ps (L.map enc))
    (hs : ∀ x ∈ L, ∃ qs, JG vs g ps (dv K (enc x)) qs ∧ JS K M W tb qs (ends ps ((f x).map h))) : JS K M W (tFor wi g tb) ps (ends ps ((L.findSome? f).map h)) := by
  have key := js_search (M := M) (W := W) (g := g) (tb := tb) (vs := vs) (fun i => (L[i]?.bind f).map h) hi fun (i : Nat) (d : PyData) (hd : (L.map enc)[i]? = some d) => by
    have hlt : i < L.length := by
      have := (List.getElem?_eq_some_iff.mp hd).1
      rw [List.length_map] at this
      exact this
    rw [List.getElem?_map, List.getElem?_eq_getElem hlt] at hd
    cases hd
    obtain ⟨qs, hg, hb⟩ := hs L[i] (List.getElem_mem hlt)
    refine ⟨qs, hg, .inl ?_⟩
    show JS K M W tb qs (ends ps ((L[i]?.bind f).map h))
    rw [List.getElem?_eq_getElem hlt]
    exact hb
  rw [List.length_map, first_map, first_ix] at key
  exact key
theorem rg_mem {lo x : Int} {m : Nat} (h : x ∈ rg lo m) : lo ≤ x ∧ x < lo + m := by
  unfold rg at h
  obtain ⟨i, hi, rfl⟩ := List.mem_map.mp h
  have := List.mem_range.mp hi
  omega
theorem js_allL {K : PySem.W.Frag} {M : EC → Addr} {W : WX} {ps : Kn} {vs : List Nat} {wi : TI} {g : TG} {tb : TS} {α : Type} (L : List α) (enc : α → PyData) (hi : JI K M W wi ps (L.map enc))
    (hs : ∀ x ∈ L, ∃ qs, JG vs g ps (dv K (enc x)) qs ∧ JS K M W tb qs (.nx ps)) : JS K M W (tFor wi g tb) ps (.nx ps) := by
  have := js_first (K := K) (M := M) (W := W) (g := g) (tb := tb) (vs := vs) L enc (fun _ => (none : Option Er)) Out.er hi fun x hx => by
    obtain ⟨qs, hg, hb⟩ := hs x hx
    exact ⟨qs, hg, hb⟩
  rw [List.findSome?_eq_none_iff.mpr (fun _ _ => rfl)] at this
  exact this
theorem nb_map (row : List Int) : nb (row.map .int) = (List.range row.length).map fun m => .tuple [.int (m : Nat), .int (row.getD m 0)] := by
  unfold nb
  rw [List.length_map]
  apply List.ext_getElem?
  intro i
  rw [List.getElem?_zipWith, List.getElem?_map, List.getElem?_map]
  by_cases h : i < row.length
  · rw [List.getElem?_range h, List.getElem?_eq_getElem h]
    simp [h]
  · rw [List.getElem?_eq_none (by rw [List.length_range]; omega), List.getElem?_eq_none (by omega)]
    rfl
theorem at_getD {row : List Int} {m : Nat} (h : m < row.length) : atI (row.map PyData.int) (m : Int) = some (.int (row.getD m 0)) := by
  refine atI_nat ?_
  rw [List.getElem?_map, List.getElem?_eq_getElem h]
  simp [h]
theorem filter_yes {α : Type} (l : List α) : (l.filter fun _ => true) = l := List.filter_eq_self.mpr fun _ _ => rfl
theorem rgN (n : Nat) : (rg 0 n).map PyData.int = (List.range n).map fun (i : Nat) => PyData.int (i : Int) := by
  unfold rg
  rw [List.map_map]
  refine List.map_congr_left fun i _ => ?_
  show PyData.int (0 + (i : Int)) = _
  rw [Int.zero_add]
theorem ji_uptoN {K : PySem.W.Frag} {M : EC → Addr} {W : WX} {ps : Kn} {te : TE} {n : Nat} (h : JD K M W te ps (.int n)) (hn : n ≤ 1000) : JI K M W (iRng1 (tCons te tNil)) ps ((List.range n).map fun (i : Nat) => PyData.int (i : Int)) := ji_is (ji_upto h hn) (rgN n)
theorem rgN2 (m k : Nat) : (rg (m : Int) k).map PyData.int = (List.range k).map fun (i : Nat) => PyData.int ((m + i : Nat) : Int) := by
  unfold rg
  rw [List.map_map]
  refine List.map_congr_left fun i _ => ?_
  show PyData.int ((m : Int) + (i : Int)) = _
  rw [Int.natCast_add]
def PrmNE (K : PySem.W.Frag) (M : EC → Addr) {α : Type} (args : α → List PV) (dom : α → Prop) (out : α → Except Er (List PyData)) : Sp := fun vs H Q E => ∃ a F, Ex F H ∧ AllP F vs (args a) ∧ dom a ∧ (match out a with
  | .ok ds => ∀ D F' H', Acc K D F H F' H' ds → H D = none → Q (.ref D) H'
  | .error e => ∀ d u F' H', Gr F H F' H' → H d = none → H' d = some (.xd [(e.c.fld, u)]) → Dp K F' u e.val → E (.ref (M e.c)) (some d) H')
theorem jn_callE {K : PySem.W.Frag} {M : EC → Addr} {W : WX} {ps : Kn} {tr : TA} {α : Type} {args : α → List PV} {dom : α → Prop} {out : α → Except Er (List PyData)} {E : L2.St → XK} (a : α) {ds : List PyData} (h : JA K M W tr ps (args a)) (hd : dom a) (ho : out a = .ok ds) : JN K (tCallS (PrmNE K M args dom out) E tr) ps ds := fun σ F H Q fh S k =>
  h σ F H _ fh S fun vs F1 H1 e1 b => ⟨a, F1, e1.fh, b, hd, by rw [ho]; exact fun D F' H' A hD => k D F' H' (A.pre e1) (fresh_back e1.hh hD)⟩
theorem je_callE {K : PySem.W.Frag} {M : EC → Addr} {W : WX} {ps : Kn} {tr : TA} {α : Type} {args : α → List PV} {dom : α → Prop} {out : α → Except Er (List PyData)} (a : α) {e : Er} (h : JA K M W tr ps (args a)) (hd : dom a) (ho : out a = .error e) : JE K M W (tCallS (PrmNE K M args dom out) (WE W) tr) ps (.er e) := fun σ F H Q fh S k =>
  h σ F H _ fh S fun vs F1 H1 e1 b => ⟨a, F1, e1.fh, b, hd, by rw [ho]; exact Then.step (o := .er e) e1 k⟩
theorem jl_newRet {K : PySem.W.Frag} {M : EC → Addr} {W : WX} {ps : Kn} {tb : TS} {i : Nat} {es : List PyData} (qs : Addr → Kn) (h : ∀ D F1 H1, H1 D = none → JL K M W D F1 H1 tb (ps.set i (some (xv (.ref D)))) [] (.nx (qs D) es)) (hq : ∀ D, (qs D)[i]? = some (some (xv (.ref D)))) : JS K M W (tSeq (tAsg (tLst tNil) (gName i)) (tSeq tb (tRet (tVar i)))) ps (.rt (lv K es)) := fun Dn σ F H fh S k =>
  ⟨sz_of (by decide), fun D hD => h D F H hD { Dn with nx := tRet (tVar i) Dn } _ F _ (Acc.start fh hD) (S.set i rfl) fun σ' F' H' A e S' => by
    obtain ⟨acc, h0, hd⟩ := A.at_
    exact ⟨.ref D, sl_at S' (hq D), k (.ref D) (upd F' D (.lst acc)) H' (gr_in A.gr hD A.off h0) ⟨D, acc, rfl, upd_same, dpAll_mono (Ex.new A.off) hd⟩⟩⟩
end K02

namespace K02
open PySem PySem.Spec PyProof.Rows L2 Evl EB PySem.W
/-! ### check_row -/
def M40 : Int := 10000000000000000000000000000000000000000
def farE (x : Int) : Option Er := match inR (-M40) x M40 with
  | true => none
  | false => some ⟨.TooFar, .int x⟩
def rowE (least : Int) (row : List Int) : Option Er := match inR least row.length 64 with
  | false => some ⟨.WrongCount, .int row.length⟩
  | true => row.findSome? farE
theorem rowE_len {least : Int} {row : List Int} (h : rowE least row = none) : row.length ≤ 64 ∧ least ≤ row.length := by
  unfold rowE at h
  cases hb : inR least row.length 64 with
  | false => rw [hb] at h; cases h
  | true =>
    unfold inR at hb
    rw [Bool.and_eq_true, decide_eq_true_eq, decide_eq_true_eq] at hb
    omega
def args_check_row {K : PySem.W.Frag} {mg : Str → Option Value} (T : Tx K mg) : Bool × List Int × Int → List PV := fun a => [dv K (sq a.1 (a.2.1.map .int)), dv K (.int a.2.2)]
def dom_check_row : Bool × List Int × Int → Prop := fun _ => True
def out_check_row {K : PySem.W.Frag} {mg : Str → Option Value} (T : Tx K mg) : Bool × List Int × Int → Out := fun a => outE K (rowE a.2.2 a.2.1)
theorem ok_check_row {P : Program} {w : World} {K : PySem.W.Frag} {mg : Str → Option Value} {base : Heap} (T : Tx K mg) : FnOk P w K mg base (L2.CX P w) 4 T.a_check_row T.fd_check_row ["row", "least"] (Prm K T.M (args_check_row T) dom_check_row (out_check_row T)) := by
  refine T.F_check_row.okX sc_check_row (fun vs H Q E h => by obtain ⟨a, F, _, al, _⟩ := h; exact al.length) (fun cdv A outer s H vs Q E hr h => ?_)
  have tk : Takes (cxOf (L2.CX P w) P w K mg base N_check_row "check_row" (defScope s_check_row) T.a_check_row cdv A outer s H E) (fun cls d _ H => E cls d H) := takes_of rfl rfl rfl rfl
  obtain ⟨a, F, fh, al, hd, th⟩ := h
  refine ⟨_, (pss_cons (ps_expr (pe_callS (ok_check_count T) (hr.mono (by decide)) (by rfl) T.g_check_count T.F_check_count.kp (b_check_count T) (fun σ => passAt tk σ) (pa_cons (pv 0) (pa_cons (pv 1) (pa_cons (pe_glob (v := .int 64) (by rfl) T.g_MOST_ENTRIES T.r_MOST_ENTRIES) pa_nil)))))
      (pss_one (ps_for (passes_of rfl) rfl (pi_seqQ (pv 0)) (pg_name (i := 2) sc_check_row.nd rfl (by first | exact Or.inl rfl | exact Or.inr rfl)) (pss_one (ps_expr (pe_callS (ok_check_range T) (hr.mono (by decide)) (by rfl) T.g_check_range T.F_check_range.kp (b_check_range T) (fun σ => passAt tk σ) (pa_cons (pv 2) (pa_cons (pe_un un_neg (pe_glob (v := .int 10000000000000000000000000000000000000000) (by rfl) T.g_FARTHEST_ENTRY T.r_FARTHEST_ENTRY)) (pa_cons (pe_glob (v := .int 10000000000000000000000000000000000000000) (by rfl) T.g_FARTHEST_ENTRY T.r_FARTHEST_ENTRY) pa_nil))))))))), ?_⟩
  obtain ⟨b, row, least⟩ := a
  let W0 : WX := fun cls d _ H => E cls d H
  have h1 := je_call (K := K) (M := T.M) (W := W0) (ps := entry N_check_row (args_check_row T (b, row, least))) (args := args_check_count T) (dom := dom_check_count) (out := out_check_count T) (b, row.map .int, least, 64) (ja_cons (je_var (i := 0) rfl) (ja_cons (je_var (i := 1) rfl) (ja_cons je_int ja_nil))) trivial
  have ho : out_check_row T (b, row, least) = outE K (rowE least row) := rfl
  rw [ho] at th
  unfold out_check_count at h1
  dsimp only at h1
  rw [List.length_map] at h1
  unfold rowE at th
  cases hb : inR least row.length 64 with
  | false =>
    rw [hb] at h1 th
    exact fin_ok (r := .er ⟨.WrongCount, .int row.length⟩) (js_er (js_drop h1)) (by exact rfl) fh al th
  | true =>
    rw [hb] at h1 th
    refine fin_ok (r := ends (entry N_check_row (args_check_row T (b, row, least))) ((row.findSome? farE).map Out.er)) (js_seq (js_drop h1) (js_first (vs := [2]) row .int farE Out.er (ji_seqQ (b := b) (je_var (i := 0) rfl)) fun x hx => ⟨_, jg_name, ?_⟩)) (fin_chk _) fh al th
    have h2 := je_call (K := K) (M := T.M) (W := W0) (ps := (entry N_check_row (args_check_row T (b, row, least))).set 2 (some (dv K (.int x)))) (args := args_check_range T) (dom := dom_check_range) (out := out_check_range T) (x, -M40, M40) (ja_cons (je_var (i := 2) rfl) (ja_cons (je_neg je_int) (ja_cons je_int ja_nil))) trivial
    unfold out_check_range at h2
    dsimp only at h2
    unfold farE
    cases hx2 : inR (-M40) x M40 with
    | true =>
      rw [hx2] at h2
      exact js_weak (js_drop h2) ⟨.inr rfl, .inr rfl, .inl rfl, trivial⟩
    | false =>
      rw [hx2] at h2
      exact js_drop h2
/-! ### spread -/
def spI (row : List Int) (s : Nat) : Int := ((List.range row.length).map fun m => row.getD m 0 * mcComb (m : Int) (s : Int)).sum
def spL (row : List Int) : List PyData := (List.range row.length).map fun s => .int (spI row s)
abbrev Qr := Bool × List Int
def orF (o : Option Er) (ds : List PyData) : Except Er (List PyData) := match o with
  | some e => .error e
  | none => .ok ds
def args_spread {K : PySem.W.Frag} {mg : Str → Option Value} (T : Tx K mg) : Qr → List PV := fun a => [dv K (sq a.1 (a.2.map .int))]
def dom_spread : Qr → Prop := fun _ => True
def out_spread : Qr → Except Er (List PyData) := fun a => orF (rowE 0 a.2) (spL a.2)
theorem comb_sm : ∀ m : Nat, m < 65 → ∀ s : Nat, s < 65 → -(2 ^ 63) ≤ mcComb (m : Int) (s : Int) ∧ mcComb (m : Int) (s : Int) ≤ 2 ^ 63 := by decide +kernel
theorem mul_r {a b : Int} (h : -(2 ^ 63) ≤ b ∧ b ≤ 2 ^ 63) : CMul a b := .inr ⟨by omega, by omega⟩
theorem ixQ {K : PySem.W.Frag} {M : EC → Addr} {W : WX} {ps : Kn} {ta tb : TE} {b : Bool} {ds : List PyData} {i : Int} {d : PyData} (ha : JD K M W ta ps (sq b ds)) (hb : JD K M W tb ps (.int i)) (hi : atI ds i = some d) : JD K M W (tOp (rIx K) ta tb) ps d := by
  cases b with
  | true => exact je_ixQL ha hb hi
  | false => exact je_ixQT ha hb hi
theorem lenQ {K : PySem.W.Frag} {M : EC → Addr} {W : WX} {ps : Kn} {te : TE} {b : Bool} {row : List Int} (h : JD K M W te ps (sq b (row.map .int))) : JD K M W (tCB (rLenS K) (tCons te tNil)) ps (.int row.length) := je_is (je_lenQ h) (by rw [List.length_map])
theorem chk {K : PySem.W.Frag} {mg : Str → Option Value} (T : Tx K mg) {W : WX} {ps : Kn} {tl : TE} {b : Bool} {row : List Int} {least : Int} (h : ps[0]? = some (some (dv K (sq b (row.map .int))))) (hl : JD K T.M W tl ps (.int least)) : JE K T.M W (tCallS (Prm K T.M (args_check_row T) dom_check_row (out_check_row T)) (WE W) (tCons (tVar 0) (tCons tl tNil))) ps (outE K (rowE least row)) :=
  je_call (args := args_check_row T) (dom := dom_check_row) (out := out_check_row T) (b, row, least) (ja_cons (je_var (i := 0) h) (ja_cons hl ja_nil)) trivial
theorem ok_spread {P : Program} {w : World} {K : PySem.W.Frag} {mg : Str → Option Value} {base : Heap} (T : Tx K mg) : FnOk P w K mg base (L2.CX P w) 5 T.a_spread T.fd_spread ["row"] (PrmNE K T.M (args_spread T) dom_spread out_spread) := by
  refine T.F_spread.okX sc_spread (fun vs H Q E h => by obtain ⟨a, F, _, al, _⟩ := h; exact al.length) (fun cdv A outer s H vs Q E hr h => ?_)
  have tk : Takes (cxOf (L2.CX P w) P w K mg base N_spread "spread" (defScope s_spread) T.a_spread cdv A outer s H E) (fun cls d _ H => E cls d H) := takes_of rfl rfl rfl rfl
  obtain ⟨a, F, fh, al, hd, th⟩ := h
  refine ⟨_, (pss_cons (ps_expr (pe_callS (ok_check_row T) (hr.mono (by decide)) (by rfl) T.g_check_row T.F_check_row.kp (b_check_row T) (fun σ => passAt tk σ) (pa_cons (pv 0) (pa_cons pe_int pa_nil))))
      (pss_one (ps_ret (pe_lc (own := [("s", 3)]) (g := (gName 3)) (tt := tYes) (te := (tCB (rSum K) (tCons (tLc (iEnumQ K (tCons (tVar 0) tNil)) (gTup K 2 (gCons (gName 1) (gCons (gName 2) gNil))) tYes (tOp (rI CMul fun i j => .int (i * j)) (tVar 2) (tCB rComb (tCons (tVar 1) (tCons (tVar 3) tNil)))) [1, 2]) tNil))) rfl sc_spread.nd (pi_range1 (by rfl) T.z_range (pa_cons (pe_callB call_len_seq (by rfl) T.z_len PySem.boot_len (pa_cons (pv 0) pa_nil)) pa_nil)) (blkOk_by (N := N_spread) (sc := defScope s_spread) (own := [("s", 3)]) (by decide +kernel)) (fun _ _ _ _ _ => (pg_name (i := 3) sc_spread.nd rfl (by first | exact Or.inl rfl | exact Or.inr rfl))) (fun _ _ _ _ _ => by exact pts_nil) (fun _ _ _ _ _ => by exact (pe_callB (cr_sum rfl) (by rfl) T.z_sum (by decide +kernel) (pa_cons (pe_lc (own := [("m", 1), ("entry", 2)]) (g := (gTup K 2 (gCons (gName 1) (gCons (gName 2) gNil)))) (tt := tYes) (te := (tOp (rI CMul fun i j => .int (i * j)) (tVar 2) (tCB rComb (tCons (tVar 1) (tCons (tVar 3) tNil))))) rfl sc_spread.nd (pi_enumQ (by rfl) T.z_enumerate (pa_cons (pv 0) pa_nil)) (by exact (show BlkOk N_spread (relS _ (defScope s_spread)) _ [("m", 1), ("entry", 2)] from blkOk_by (by decide +kernel))) (fun _ _ _ _ _ => (pg_tup rfl (pgs_cons (pg_name (i := 1) sc_spread.nd rfl (by first | exact Or.inl rfl | exact Or.inr rfl)) (pgs_cons (pg_name (i := 2) sc_spread.nd rfl (by first | exact Or.inl rfl | exact Or.inr rfl)) pgs_nil)))) (fun _ _ _ _ _ => by exact pts_nil) (fun _ _ _ _ _ => by exact (pe_op op_mul (pv 2) (pe_callG (id := "math.comb") cr_comb (by rfl) T.g_comb (pa_cons (pv 1) (pa_cons (pv 3) pa_nil)))))) pa_nil))))))), ?_⟩
  obtain ⟨b, row⟩ := a
  let W0 : WX := fun cls d _ H => E cls d H
  have h1 := chk T (W := W0) (ps := entry N_spread (args_spread T (b, row))) (b := b) (row := row) (least := 0) rfl je_int
  unfold out_spread at th
  dsimp only at th
  cases h : rowE 0 row with
  | some e =>
    rw [h] at h1 th
    exact fin_neE (jsn_erS (js_drop h1)) fh al th
  | none =>
    rw [h] at h1 th
    have hl := (rowE_len h).1
    refine fin_neO (jsn_seq (js_drop h1) (jsn_ret (jn_is (es := spL row) (jn_lc (M := T.M) (W := W0) (W' := fun _ _ _ _ => False) (List.range row.length) (fun (s : Nat) => .int (s : Int)) (fun _ => true) (fun s => .int (spI row s)) (ji_uptoN (lenQ (b := b) (je_var (i := 0) rfl)) (by omega)) (by rw [List.length_range]; omega) fun s hs2 => ⟨_, jg_name, jt_yes, fun _ => ?_⟩) (by rw [filter_yes]; rfl)))) fh al th
    have s64 := List.mem_range.mp hs2
    refine je_sum (ns := (List.range row.length).map fun m => row.getD m 0 * mcComb (m : Int) (s : Int)) (je_is (je_lc (vs := [1, 2]) (W' := fun _ _ _ _ => False) (List.range row.length) (fun (m : Nat) => .tuple [.int (m : Int), .int (row.getD m 0)]) (fun _ => true) (fun m => .int (row.getD m 0 * mcComb (m : Int) (s : Int))) (ji_is (ji_enumQ (b := b) (je_var (i := 0) rfl)) (nb_map row)) (by rw [List.length_range]; omega) fun m hm => ⟨_, jg_tup (ds := [.int (m : Int), .int (row.getD m 0)]) (jgs_cons jg_name (jgs_cons jg_name jgs_nil)), jt_yes, fun _ => ?_⟩) ?_)
    · have m64 := List.mem_range.mp hm
      exact je_mul (je_var (i := 2) rfl) (je_comb (je_var (i := 1) rfl) (je_var (i := 3) rfl) (by omega) (by omega) (by omega) (by omega)) (mul_r (comb_sm m (by omega) s (by omega)))
    · rw [filter_yes, List.map_map]
      rfl
/-! ### gather -/
def gaE (s m : Int) (e : Int) : Int := if (s - m) % 2 = 1 then -mcComb s m * e else mcComb s m * e
def args_gathered {K : PySem.W.Frag} {mg : Str → Option Value} (T : Tx K mg) : Int × Int × Int → List PV := fun a => [dv K (.int a.1), dv K (.int a.2.1), dv K (.int a.2.2)]
def dom_gathered : Int × Int × Int → Prop := fun a => (0 ≤ a.1 ∧ a.1 ≤ 64) ∧ (0 ≤ a.2.1 ∧ a.2.1 ≤ 64)
def out_gathered {K : PySem.W.Frag} {mg : Str → Option Value} (T : Tx K mg) : Int × Int × Int → Out := fun a => .ok (dv K (.int (gaE a.1 a.2.1 a.2.2)))
theorem ok_gathered {P : Program} {w : World} {K : PySem.W.Frag} {mg : Str → Option Value} {base : Heap} (T : Tx K mg) : FnOk P w K mg base (L2.CX P w) 1 T.a_gathered T.fd_gathered ["s", "m", "entry"] (Prm K T.M (args_gathered T) dom_gathered (out_gathered T)) := by
  refine T.F_gathered.okX sc_gathered (fun vs H Q E h => by obtain ⟨a, F, _, al, _⟩ := h; exact al.length) (fun cdv A outer s H vs Q E hr h => ?_)
  have tk : Takes (cxOf (L2.CX P w) P w K mg base N_gathered "gathered" (defScope s_gathered) T.a_gathered cdv A outer s H E) (fun cls d _ H => E cls d H) := takes_of rfl rfl rfl rfl
  obtain ⟨a, F, fh, al, hd, th⟩ := h
  refine ⟨_, (pss_one (ps_ret (pe_ifExp (pt_cmpR op_eq (pe_op op_mod (pe_op op_sub (pv 0) (pv 1)) pe_int) pe_int (nomark _)) (pe_op op_mul (pe_un un_neg (pe_callG (id := "math.comb") cr_comb (by rfl) T.g_comb (pa_cons (pv 0) (pa_cons (pv 1) pa_nil)))) (pv 2)) (pe_op op_mul (pe_callG (id := "math.comb") cr_comb (by rfl) T.g_comb (pa_cons (pv 0) (pa_cons (pv 1) pa_nil))) (pv 2))))), ?_⟩
  obtain ⟨s, m, e⟩ := a
  obtain ⟨h1, h2⟩ := hd
  simp only at h1 h2
  have ho : out_gathered T (s, m, e) = .ok (dv K (.int (gaE s m e))) := rfl
  rw [ho] at th
  have sm := comb_sm s.toNat (by omega) m.toNat (by omega)
  rw [Int.toNat_of_nonneg h1.1, Int.toNat_of_nonneg h2.1] at sm
  have c1 : CMul (-mcComb s m) e := near_mul (by omega)
  have c2 : CMul (mcComb s m) e := near_mul (by omega)
  let W0 : WX := fun cls d _ H => E cls d H
  have cb := je_comb (K := K) (M := T.M) (W := W0) (ps := entry N_gathered (args_gathered T (s, m, e))) (je_var (i := 0) rfl) (je_var (i := 1) rfl) h1.1 h2.1 (by omega) (by omega)
  refine fin_ok (r := .rt (dv K (.int (gaE s m e)))) (js_ret (je_if (jt_test (je_eqI (je_mod (je_sub (je_var (i := 0) rfl) (je_var (i := 1) rfl)) je_int (by decide)) je_int)) (fun hb => ?_) fun hb => ?_)) (by exact rfl) fh al th
  · have hb2 : (s - m) % 2 = 1 := of_decide_eq_true hb
    exact je_is (je_mul (je_neg cb) (je_var (i := 2) rfl) c1) (by unfold gaE; rw [if_pos hb2])
  · have hb2 : ¬ (s - m) % 2 = 1 := of_decide_eq_false hb
    exact je_is (je_mul cb (je_var (i := 2) rfl) c2) (by unfold gaE; rw [if_neg hb2])
def gaI (row : List Int) (m : Nat) : Int := ((List.range (row.length - m)).map fun i => gaE ((m + i : Nat) : Int) (m : Int) (row.getD (m + i) 0)).sum
def gaL (row : List Int) : List PyData := (List.range row.length).map fun m => .int (gaI row m)
def args_bare_gather {K : PySem.W.Frag} {mg : Str → Option Value} (T : Tx K mg) : Qr → List PV := args_spread T
def dom_bare_gather : Qr → Prop := fun a => a.2.length ≤ 64
def out_bare_gather : Qr → List PyData := fun a => gaL a.2
theorem ok_bare_gather {P : Program} {w : World} {K : PySem.W.Frag} {mg : Str → Option Value} {base : Heap} (T : Tx K mg) : FnOk P w K mg base (L2.CX P w) 2 T.a_bare_gather T.fd_bare_gather ["row"] (PrmN K (args_bare_gather T) dom_bare_gather out_bare_gather) := by
  refine T.F_bare_gather.okX sc_bare_gather (fun vs H Q E h => by obtain ⟨a, F, _, al, _⟩ := h; exact al.length) (fun cdv A outer s H vs Q E hr h => ?_)
  have tk : Takes (cxOf (L2.CX P w) P w K mg base N_bare_gather "bare_gather" (defScope s_bare_gather) T.a_bare_gather cdv A outer s H E) (fun cls d _ H => E cls d H) := takes_of rfl rfl rfl rfl
  obtain ⟨a, F, fh, al, hd, th⟩ := h
  refine ⟨_, (pss_one (ps_ret (pe_lc (own := [("m", 2)]) (g := (gName 2)) (tt := tYes) (te := (tCB (rSum K) (tCons (tLc (iRng2 (tCons (tVar 2) (tCons (tCB (rLenS K) (tCons (tVar 0) tNil)) tNil))) (gName 1) tYes (tCallS (Prm K T.M (args_gathered T) dom_gathered (out_gathered T)) (WE fun _ _ _ _ => False) (tCons (tVar 1) (tCons (tVar 2) (tCons (tOp (rIx K) (tVar 0) (tVar 1)) tNil)))) [1]) tNil))) rfl sc_bare_gather.nd (pi_range1 (by rfl) T.z_range (pa_cons (pe_callB call_len_seq (by rfl) T.z_len PySem.boot_len (pa_cons (pv 0) pa_nil)) pa_nil)) (blkOk_by (N := N_bare_gather) (sc := defScope s_bare_gather) (own := [("m", 2)]) (by decide +kernel)) (fun _ _ _ _ _ => (pg_name (i := 2) sc_bare_gather.nd rfl (by first | exact Or.inl rfl | exact Or.inr rfl))) (fun _ _ _ _ _ => by exact pts_nil) (fun _ _ _ _ _ => by exact (pe_callB (cr_sum rfl) (by rfl) T.z_sum (by decide +kernel) (pa_cons (pe_lc (own := [("s", 1)]) (g := (gName 1)) (tt := tYes) (te := (tCallS (Prm K T.M (args_gathered T) dom_gathered (out_gathered T)) (WE fun _ _ _ _ => False) (tCons (tVar 1) (tCons (tVar 2) (tCons (tOp (rIx K) (tVar 0) (tVar 1)) tNil))))) rfl sc_bare_gather.nd (pi_range2 (by rfl) T.z_range (pa_cons (pv 2) (pa_cons (pe_callB call_len_seq (by rfl) T.z_len PySem.boot_len (pa_cons (pv 0) pa_nil)) pa_nil))) (by exact (show BlkOk N_bare_gather (relS _ (defScope s_bare_gather)) _ [("s", 1)] from blkOk_by (by decide +kernel))) (fun _ _ _ _ _ => (pg_name (i := 1) sc_bare_gather.nd rfl (by first | exact Or.inl rfl | exact Or.inr rfl))) (fun _ _ _ _ _ => by exact pts_nil) (fun _ _ _ _ _ => by exact (pe_callS (ok_gathered T) (hr.mono (by decide)) (by rfl) T.g_gathered T.F_gathered.kp (b_gathered T) (fun σ => passAt takes0 σ) (pa_cons (pv 1) (pa_cons (pv 2) (pa_cons (pe_ix ix_seq (pv 0) (pv 1) (fun _ _ => rfl)) pa_nil)))))) pa_nil)))))), ?_⟩
  obtain ⟨b, row⟩ := a
  have hl : row.length ≤ 64 := hd
  let W0 : WX := fun cls d _ H => E cls d H
  refine fin_new (jn_is (jn_lc (M := T.M) (W := W0) (W' := fun _ _ _ _ => False) (List.range row.length) (fun (s : Nat) => .int (s : Int)) (fun _ => true) (fun m => .int (gaI row m)) (ji_uptoN (lenQ (b := b) (je_var (i := 0) rfl)) (by omega)) (by rw [List.length_range]; omega) fun m hm => ⟨_, jg_name, jt_yes, fun _ => ?_⟩) (show _ = out_bare_gather (b, row) by rw [filter_yes]; rfl)) fh al th
  have m64 := List.mem_range.mp hm
  refine je_sum (ns := (List.range (row.length - m)).map fun i => gaE ((m + i : Nat) : Int) (m : Int) (row.getD (m + i) 0)) (je_is (je_lc (vs := [1]) (W' := fun _ _ _ _ => False) (List.range (row.length - m)) (fun (i : Nat) => .int ((m + i : Nat) : Int)) (fun _ => true) (fun i => .int (gaE ((m + i : Nat) : Int) (m : Int) (row.getD (m + i) 0))) (ji_is (ji_rng2 (lo := (m : Int)) (n := (row.length : Int)) (ja_cons (je_var (i := 2) rfl) (ja_cons (lenQ (b := b) (je_var (i := 0) rfl)) ja_nil)) ⟨by omega, by omega, by omega, by omega⟩) (by rw [show ((row.length : Int) - (m : Int)).toNat = row.length - m by omega]; exact rgN2 m _)) (by rw [List.length_range]; omega) fun i hi => ⟨_, jg_name, jt_yes, fun _ => ?_⟩) ?_)
  · have i64 := List.mem_range.mp hi
    exact je_call (args := args_gathered T) (dom := dom_gathered) (out := out_gathered T) (((m + i : Nat) : Int), (m : Int), row.getD (m + i) 0) (ja_cons (je_var (i := 1) rfl) (ja_cons (je_var (i := 2) rfl) (ja_cons (ixQ (b := b) (je_var (i := 0) rfl) (je_var (i := 1) rfl) (at_getD (row := row) (m := m + i) (by omega))) ja_nil))) ⟨⟨by show (0:Int) ≤ _; omega, by show _ ≤ (64:Int); omega⟩, by show (0:Int) ≤ (m : Int); omega, by show (m : Int) ≤ (64:Int); omega⟩
  · rw [filter_yes, List.map_map]
    rfl
def args_gather {K : PySem.W.Frag} {mg : Str → Option Value} (T : Tx K mg) : Qr → List PV := args_spread T
def dom_gather : Qr → Prop := fun _ => True
def out_gather : Qr → Except Er (List PyData) := fun a => orF (rowE 0 a.2) (gaL a.2)
theorem ok_gather {P : Program} {w : World} {K : PySem.W.Frag} {mg : Str → Option Value} {base : Heap} (T : Tx K mg) : FnOk P w K mg base (L2.CX P w) 5 T.a_gather T.fd_gather ["row"] (PrmNE K T.M (args_gather T) dom_gather out_gather) := by
  refine T.F_gather.okX sc_gather (fun vs H Q E h => by obtain ⟨a, F, _, al, _⟩ := h; exact al.length) (fun cdv A outer s H vs Q E hr h => ?_)
  have tk : Takes (cxOf (L2.CX P w) P w K mg base N_gather "gather" (defScope s_gather) T.a_gather cdv A outer s H E) (fun cls d _ H => E cls d H) := takes_of rfl rfl rfl rfl
  obtain ⟨a, F, fh, al, hd, th⟩ := h
  refine ⟨_, (pss_cons (ps_expr (pe_callS (ok_check_row T) (hr.mono (by decide)) (by rfl) T.g_check_row T.F_check_row.kp (b_check_row T) (fun σ => passAt tk σ) (pa_cons (pv 0) (pa_cons pe_int pa_nil))))
      (pss_one (ps_ret (pe_callS (ok_bare_gather T) (hr.mono (by decide)) (by rfl) T.g_bare_gather T.F_bare_gather.kp (b_bare_gather T) (fun σ => passAt tk σ) (pa_cons (pv 0) pa_nil))))), ?_⟩
  obtain ⟨b, row⟩ := a
  let W0 : WX := fun cls d _ H => E cls d H
  have h1 := chk T (W := W0) (ps := entry N_gather (args_gather T (b, row))) (b := b) (row := row) (least := 0) rfl je_int
  unfold out_gather at th
  dsimp only at th
  cases h : rowE 0 row with
  | some e =>
    rw [h] at h1 th
    exact fin_neE (jsn_erS (js_drop h1)) fh al th
  | none =>
    rw [h] at h1 th
    exact fin_neO (jsn_seq (js_drop h1) (jsn_ret (jn_call (M := T.M) (W := W0) (args := args_bare_gather T) (dom := dom_bare_gather) (out := out_bare_gather) (b, row) (ja_cons (je_var (i := 0) rfl) ja_nil) (rowE_len h).1))) fh al th
end K02

namespace K02
open PySem PySem.Spec PyProof.Rows L2 Evl EB PySem.W
/-! ### bends -/
def padR (row : List Int) : List Int := [0, 0] ++ row ++ [0, 0]
def bI (row : List Int) (s : Nat) : Int := (padR row).getD (s + 2) 0 - 2 * (padR row).getD (s + 1) 0 + (padR row).getD s 0
def beL (row : List Int) : List PyData := (List.range (row.length + 2)).map fun s => .int (bI row s)
def args_bends {K : PySem.W.Frag} {mg : Str → Option Value} (T : Tx K mg) : Qr → List PV := args_spread T
def dom_bends : Qr → Prop := fun _ => True
def out_bends : Qr → Except Er (List PyData) := fun a => orF (rowE 0 a.2) (beL a.2)
theorem pad_len (row : List Int) : (padR row).length = row.length + 4 := by
  unfold padR
  simp
theorem ja_starQ {K : PySem.W.Frag} {M : EC → Addr} {W : WX} {ps : Kn} {te : TE} {tr : TA} {b : Bool} {ds : List PyData} {Ps : List PV} (h : JD K M W te ps (sq b ds)) (hr : JA K M W tr ps Ps) : JA K M W (StX.tStar K te tr) ps (ds.map (dv K) ++ Ps) := by
  cases b with
  | true => exact ja_starL h hr
  | false => exact ja_starT h hr
theorem ok_bends {P : Program} {w : World} {K : PySem.W.Frag} {mg : Str → Option Value} {base : Heap} (T : Tx K mg) : FnOk P w K mg base (L2.CX P w) 5 T.a_bends T.fd_bends ["row"] (PrmNE K T.M (args_bends T) dom_bends out_bends) := by
  refine T.F_bends.okX sc_bends (fun vs H Q E h => by obtain ⟨a, F, _, al, _⟩ := h; exact al.length) (fun cdv A outer s H vs Q E hr h => ?_)
  have tk : Takes (cxOf (L2.CX P w) P w K mg base N_bends "bends" (defScope s_bends) T.a_bends cdv A outer s H E) (fun cls d _ H => E cls d H) := takes_of rfl rfl rfl rfl
  obtain ⟨a, F, fh, al, hd, th⟩ := h
  refine ⟨_, (pss_cons (ps_expr (pe_callS (ok_check_row T) (hr.mono (by decide)) (by rfl) T.g_check_row T.F_check_row.kp (b_check_row T) (fun σ => passAt tk σ) (pa_cons (pv 0) (pa_cons pe_int pa_nil))))
      (pss_cons (ps_set (i := 1) sc_bends.nd rfl (by first | exact Or.inl rfl | exact Or.inr rfl) (pe_lst (pa_cons pe_int (pa_cons pe_int (StX.pa_star (pv 0) (pa_cons pe_int (pa_cons pe_int pa_nil)))))))
      (pss_one (ps_ret (pe_lc (own := [("s", 2)]) (g := (gName 2)) (tt := tYes) (te := (tOp (rI0 fun i j => .int (i + j)) (tOp (rI0 fun i j => .int (i - j)) (tOp (rIxL K) (tVar 1) (tOp (rI0 fun i j => .int (i + j)) (tVar 2) (tC (.int 2)))) (tOp (rI CMul fun i j => .int (i * j)) (tC (.int 2)) (tOp (rIxL K) (tVar 1) (tOp (rI0 fun i j => .int (i + j)) (tVar 2) (tC (.int 1)))))) (tOp (rIxL K) (tVar 1) (tVar 2)))) rfl sc_bends.nd (pi_range1 (by rfl) T.z_range (pa_cons (pe_op op_add (pe_callB call_len_seq (by rfl) T.z_len PySem.boot_len (pa_cons (pv 0) pa_nil)) pe_int) pa_nil)) (blkOk_by (N := N_bends) (sc := defScope s_bends) (own := [("s", 2)]) (by decide +kernel)) (fun _ _ _ _ _ => (pg_name (i := 2) sc_bends.nd rfl (by first | exact Or.inl rfl | exact Or.inr rfl))) (fun _ _ _ _ _ => by exact pts_nil) (fun _ _ _ _ _ => by exact (pe_op op_add (pe_op op_sub (pe_ix ix_list (pv 1) (pe_op op_add (pv 2) pe_int) (fun _ _ => rfl)) (pe_op op_mul pe_int (pe_ix ix_list (pv 1) (pe_op op_add (pv 2) pe_int) (fun _ _ => rfl)))) (pe_ix ix_list (pv 1) (pv 2) (fun _ _ => rfl))))))))), ?_⟩
  obtain ⟨b, row⟩ := a
  let W0 : WX := fun cls d _ H => E cls d H
  have h1 := chk T (W := W0) (ps := entry N_bends (args_bends T (b, row))) (b := b) (row := row) (least := 0) rfl je_int
  unfold out_bends at th
  dsimp only at th
  cases h : rowE 0 row with
  | some e =>
    rw [h] at h1 th
    exact fin_neE (jsn_erS (js_drop h1)) fh al th
  | none =>
    rw [h] at h1 th
    have hl := (rowE_len h).1
    refine fin_neO (jsn_seq (js_drop h1) (jsn_seq (js_set (i := 1) (P := dv K (.list ((padR row).map .int))) (je_is (je_lst (ds := [.int 0, .int 0] ++ (row.map .int ++ [.int 0, .int 0])) (ja_is (ja_cons je_int (ja_cons je_int (ja_starQ (b := b) (ds := row.map .int) (je_var (i := 0) rfl) (ja_cons je_int (ja_cons je_int ja_nil))))) (by simp)) (by simp; omega)) (by unfold padR; simp)))
      (jsn_ret (jn_is (es := beL row) (jn_lc (M := T.M) (W := W0) (W' := fun _ _ _ _ => False) (List.range (row.length + 2)) (fun (s : Nat) => .int (s : Int)) (fun _ => true) (fun s => .int (bI row s)) (ji_uptoN (n := row.length + 2) (je_is (je_add (lenQ (b := b) (je_var (i := 0) rfl)) je_int) (by rfl)) (by omega)) (by rw [List.length_range]; omega) fun s hs2 => ⟨_, jg_name, jt_yes, fun _ => ?_⟩) (by rw [filter_yes]; rfl))))) fh al th
    have s64 := List.mem_range.mp hs2
    have pl := pad_len row
    have at_ : ∀ k : Nat, k < row.length + 4 → atI ((padR row).map PyData.int) ((k : Nat) : Int) = some (.int ((padR row).getD k 0)) := fun k hk => at_getD (by omega)
    exact je_add (je_sub (je_ixL (je_var (i := 1) rfl) (je_add (je_var (i := 2) rfl) je_int) (at_ (s + 2) (by omega))) (je_mul je_int (je_ixL (je_var (i := 1) rfl) (je_add (je_var (i := 2) rfl) je_int) (at_ (s + 1) (by omega))) (near_mul (by decide)))) (je_ixL (je_var (i := 1) rfl) (je_var (i := 2) rfl) (at_ s (by omega)))
/-! ### unbend -/
theorem at_neg {row : List Int} {k : Nat} {j : Int} (h : k + 1 ≤ row.length) (e : j = -((k + 1 : Nat) : Int)) : atI (row.map PyData.int) j = some (.int (row.getD (row.length - (k + 1)) 0)) := by
  subst e
  unfold atI ixN
  rw [List.length_map, if_neg (by omega), if_pos (by omega), show (-((k + 1 : Nat) : Int) + (row.length : Int)).toNat = row.length - (k + 1) by omega]
  show (row.map PyData.int)[row.length - (k + 1)]? = _
  rw [List.getElem?_map, List.getElem?_eq_getElem (by omega)]
  simp [show row.length - (k + 1) < row.length by omega]
def fdR (row : List Int) : List Int := [0, 0] ++ KM.unb 0 0 row
theorem fd_len (row : List Int) : (fdR row).length = row.length + 2 := by
  unfold fdR
  rw [List.length_append, KM.unb_len]
  simp
  omega
theorem fd_succ {row : List Int} {i : Nat} (h : i < row.length) : fdR (row.take (i + 1)) = fdR (row.take i) ++ [row[i] + 2 * (fdR (row.take i)).getD (i + 1) 0 - (fdR (row.take i)).getD i 0] := by
  have hl : (row.take i).length = i := by rw [List.length_take]; omega
  have := KM.unb_app (row.take i) 0 0 row[i]
  rw [hl] at this
  unfold fdR
  rw [List.take_succ_eq_append_getElem h, this, List.append_assoc]
def lastZ (row : List Int) : Bool := decide ((fdR row).getD row.length 0 = 0) && decide ((fdR row).getD (row.length + 1) 0 = 0)
def ubR (row : List Int) : List Int := (KM.unb 0 0 row).take (row.length - 2)
def ubE (row : List Int) : Except Er (List PyData) := match rowE 2 row with
  | some e => .error e
  | none => match lastZ row with
    | true => .ok ((ubR row).map .int)
    | false => .error ⟨.WrongRow, .str "bends"⟩
def args_unbend {K : PySem.W.Frag} {mg : Str → Option Value} (T : Tx K mg) : Qr → List PV := args_spread T
def dom_unbend : Qr → Prop := fun _ => True
def out_unbend : Qr → Except Er (List PyData) := fun a => ubE a.2
theorem cut_m2 {fd : List Int} (h : 2 ≤ fd.length) : cutD (fd.map PyData.int) (some (-2)) none = [.int (fd.getD (fd.length - 2) 0), .int (fd.getD (fd.length - 1) 0)] := by
  unfold EB.cutD
  rw [HT.sIx_none, List.length_map, show HT.sIx fd.length 0 (some (-2)) = fd.length - 2 by unfold HT.sIx; simp only; rw [if_pos (by decide)]; omega]
  apply List.ext_getElem?
  intro i
  rw [show fd.length - (fd.length - 2) = 2 by omega, List.getElem?_take]
  by_cases hi : i < 2
  · rw [if_pos hi, List.getElem?_drop, List.getElem?_map]
    match i, hi with
    | 0, _ =>
      rw [List.getElem?_eq_getElem (by omega)]
      simp [show fd.length - 2 < fd.length by omega]
    | 1, _ =>
      rw [show fd.length - 2 + 1 = fd.length - 1 by omega, List.getElem?_eq_getElem (by omega)]
      simp [show fd.length - 1 < fd.length by omega]
  · rw [if_neg hi, List.getElem?_eq_none (by simp; omega)]
theorem cut_22 (row : List Int) : cutD ((fdR row).map PyData.int) (some 2) (some (-2)) = (ubR row).map .int := by
  unfold EB.cutD
  rw [List.length_map, fd_len, show HT.sIx (row.length + 2) 0 (some 2) = 2 by unfold HT.sIx; simp only; rw [if_neg (by decide)]; omega, show HT.sIx (row.length + 2) (row.length + 2) (some (-2)) = row.length by unfold HT.sIx; simp only; rw [if_pos (by decide)]; omega]
  unfold fdR ubR
  rw [List.map_take]
  rfl
theorem eqv_two (x y : Int) : PyData.eqv (.list [.int x, .int y]) (.list [.int 0, .int 0]) = (decide (x = 0) && decide (y = 0)) := by
  by_cases h : x = 0
  · by_cases h2 : y = 0
    · subst h h2
      exact SeqAt.eqv_refl _ (ok_lst (n := 0) (ok_ints [0, 0])).c
    · simp [PyData.eqv, PyData.eqvAll, h, h2]
  · simp [PyData.eqv, PyData.eqvAll, h]
theorem jo_neg {K : PySem.W.Frag} {M : EC → Addr} {W : WX} {ps : Kn} {i : Int} : JO K M W (tPart (tUn (rU fun i => .int (-i)) (tC (.int i)))) ps (some (-i)) := jo_some (je_neg je_int)
theorem ok_unbend {P : Program} {w : World} {K : PySem.W.Frag} {mg : Str → Option Value} {base : Heap} (T : Tx K mg) : FnOk P w K mg base (L2.CX P w) 5 T.a_unbend T.fd_unbend ["row"] (PrmNE K T.M (args_unbend T) dom_unbend out_unbend) := by
  refine T.F_unbend.okX sc_unbend (fun vs H Q E h => by obtain ⟨a, F, _, al, _⟩ := h; exact al.length) (fun cdv A outer s H vs Q E hr h => ?_)
  have tk : Takes (cxOf (L2.CX P w) P w K mg base N_unbend "unbend" (defScope s_unbend) T.a_unbend cdv A outer s H E) (fun cls d _ H => E cls d H) := takes_of rfl rfl rfl rfl
  obtain ⟨a, F, fh, al, hd, th⟩ := h
  refine ⟨_, (pss_cons (ps_expr (pe_callS (ok_check_row T) (hr.mono (by decide)) (by rfl) T.g_check_row T.F_check_row.kp (b_check_row T) (fun σ => passAt tk σ) (pa_cons (pv 0) (pa_cons pe_int pa_nil))))
      (pss_cons (ps_set (i := 1) sc_unbend.nd rfl (by first | exact Or.inl rfl | exact Or.inr rfl) (pe_lst (pa_cons pe_int (pa_cons pe_int pa_nil))))
      (pss_cons (ps_for (passes_of rfl) rfl (pi_seqQ (pv 0)) (pg_name (i := 2) sc_unbend.nd rfl (by first | exact Or.inl rfl | exact Or.inr rfl)) (pss_one (ps_expr (pe_bm PySem.F.plainAttrs_list PySem.F.slot_list_append PySem.F.type_list_append mt_append (pv 1) (pa_cons (pe_op op_sub (pe_op op_add (pv 2) (pe_op op_mul pe_int (pe_ix ix_list (pv 1) (pe_un un_neg pe_int) (fun _ _ => rfl)))) (pe_ix ix_list (pv 1) (pe_un un_neg pe_int) (fun _ _ => rfl))) pa_nil)))))
      (pss_cons (ps_if (pt_cmpR (op_neD hr.units) (pe_slice sl_list (pv 1) (po_some (pe_un un_neg pe_int)) po_none) (pe_lst (pa_cons pe_int (pa_cons pe_int pa_nil))) (nomark _)) (pss_one (ps_raise rfl tk (pmk_oex (T.X_WrongRow).ox (T.X_WrongRow).iC (T.X_WrongRow).tI (ok_WrongRow T) (hr.mono (by decide)) (b_WrongRow T) .nil pass0 (by rfl) T.g_WrongRow (pa_cons pe_str pa_nil)))) pss_nil)
      (pss_one (ps_ret (pe_slice sl_list (pv 1) (po_some pe_int) (po_some (pe_un un_neg pe_int))))))))), ?_⟩
  obtain ⟨b, row⟩ := a
  let W0 : WX := fun cls d _ H => E cls d H
  have h1 := chk T (W := W0) (ps := entry N_unbend (args_unbend T (b, row))) (b := b) (row := row) (least := 2) rfl je_int
  unfold out_unbend ubE at th
  dsimp only at th
  cases h : rowE 2 row with
  | some e =>
    rw [h] at h1 th
    exact fin_neE (jsn_erS (js_drop h1)) fh al th
  | none =>
    rw [h] at h1 th
    dsimp only at th
    obtain ⟨hl, h2⟩ := rowE_len h
    let rw_ : PV := dv K (sq b (row.map .int))
    let ps1 : Addr → Kn := fun D => [some rw_, some (xv (.ref D)), none]
    have loop : ∀ (D : Addr) (F1 H1 : Hp), H1 D = none → JL K T.M W0 D F1 H1 (tFor (iSeqQ K (tVar 0)) (gName 2) (tDrop (tBM K "list" rAppend (tVar 1) (tCons (tOp (rI0 fun i j => .int (i - j)) (tOp (rI0 fun i j => .int (i + j)) (tVar 2) (tOp (rI CMul fun i j => .int (i * j)) (tC (.int 2)) (tOp (rIxL K) (tVar 1) (tUn (rU fun i => .int (-i)) (tC (.int 1)))))) (tOp (rIxL K) (tVar 1) (tUn (rU fun i => .int (-i)) (tC (.int 2))))) tNil)))) (ps1 D) [.int 0, .int 0] (.nx (ps1 D) ((fdR row).map .int)) := fun D F1 H1 hD => by
      refine jl_is (jl_for (vs := [2]) (row.map .int) (fun _ => ps1 D) (fun i => (fdR (row.take i)).map .int) (ji_seqQ (b := b) (je_var (i := 0) rfl)) rfl (by rw [List.take_zero]; rfl) fun i d hi => ?_) (by rw [List.length_map, List.take_length])
      have hlt : i < row.length := by
        have := (List.getElem?_eq_some_iff.mp hi).1
        rw [List.length_map] at this
        exact this
      rw [List.getElem?_map, List.getElem?_eq_getElem hlt] at hi
      cases hi
      have tl : (row.take i).length = i := by rw [List.length_take]; omega
      have fl := fd_len (row.take i)
      rw [tl] at fl
      refine ⟨_, jg_name, jl_weak (jl_is (jl_appI (i := 1) (v := row[i] + 2 * (fdR (row.take i)).getD (i + 1) 0 - (fdR (row.take i)).getD i 0) rfl hD (je_sub (je_add (je_var (i := 2) rfl) (je_mul je_int (je_ixL (je_var (i := 1) rfl) (je_neg je_int) ?e1) (near_mul (by decide)))) (je_ixL (je_var (i := 1) rfl) (je_neg je_int) ?e2)) (by rw [List.length_map]; omega)) ?e3) ⟨.inr rfl, .inr rfl, .inl rfl, trivial⟩⟩
      case e1 =>
        have := at_neg (row := fdR (row.take i)) (k := 0) (j := -1) (by omega) rfl
        rw [fl, show i + 2 - (0 + 1) = i + 1 by omega] at this
        exact this
      case e2 =>
        have := at_neg (row := fdR (row.take i)) (k := 1) (j := -2) (by omega) rfl
        rw [fl, show i + 2 - (1 + 1) = i by omega] at this
        exact this
      case e3 =>
        rw [fd_succ hlt, List.map_append]
        rfl
    have test : ∀ D : Addr, JT K T.M W0 (tTest (tOp (rNeD K) (tSl (rSlL K) (tVar 1) (tPart (tUn (rU fun i => .int (-i)) (tC (.int 2)))) tNoPart) (tLst (tCons (tC (.int 0)) (tCons (tC (.int 0)) tNil))))) ((ps1 D).set 1 (some (dv K (.list ((fdR row).map .int))))) (!lastZ row) := fun D => by
      have fl := fd_len row
      refine jt_is (jt_test (je_neD (je_is (je_slL (je_var (i := 1) rfl) jo_neg jo_none) (congrArg PyData.list (cut_m2 (by omega)))) (je_lst (ds := [.int 0, .int 0]) (ja_cons je_int (ja_cons je_int ja_nil))) ((ok_lst (n := 0) (ok_ints [(fdR row).getD ((fdR row).length - 2) 0, (fdR row).getD ((fdR row).length - 1) 0])).sh (by decide)) ((ok_lst (n := 0) (ok_ints [0, 0])).sh (by decide)))) ?_
      rw [eqv_two, fl, show row.length + 2 - 2 = row.length by omega, show row.length + 2 - 1 = row.length + 1 by omega]
      rfl
    have lst : JN K (tLst (tCons (tC (.int 0)) (tCons (tC (.int 0)) tNil))) (entry N_unbend (args_unbend T (b, row))) [.int 0, .int 0] := jn_lst (M := T.M) (W := W0) (ja_cons je_int (ja_cons je_int ja_nil))
    cases hz : lastZ row with
    | false =>
      rw [hz] at th test
      exact fin_neE (e := ⟨.WrongRow, .str "bends"⟩) (jsn_seq (js_drop h1) (jsn_own (i := 1) lst fun D F1 H1 hD => jq_seq (loop D F1 H1 hD) (jq_ifRE (i := 1) rfl (test D) (js_raise (M := T.M) (c := .WrongRow) (ja_cons je_str ja_nil)) rfl))) fh al th
    | true =>
      rw [hz] at th test
      exact fin_neO (jsn_seq (js_drop h1) (jsn_own (i := 1) lst fun D F1 H1 hD => jq_seq (loop D F1 H1 hD) (jq_seq (jl_ifR (i := 1) (b := false) rfl (test D) (fun z => Bool.noConfusion z) (fun _ => jl_js (M := T.M) (W := W0) js_next)) (jq_is (jq_retSl (M := T.M) (i := 1) rfl (jo_some je_int) jo_neg) (congrArg Except.ok (cut_22 row)))))) fh al th
/-! ### choose -/
def chE (n k : Int) : Except Er Int := match inR 0 n 60 with
  | false => .error ⟨.TooFar, .int n⟩
  | true => match inR (-60) k 60 with
    | false => .error ⟨.TooFar, .int k⟩
    | true => .ok (if 0 ≤ k then mcComb n k else 0)
def outI (K : PySem.W.Frag) : Except Er Int → Out
  | .error e => .er e
  | .ok v => .ok (dv K (.int v))
def args_choose {K : PySem.W.Frag} {mg : Str → Option Value} (T : Tx K mg) : Int × Int → List PV := fun a => [dv K (.int a.1), dv K (.int a.2)]
def dom_choose : Int × Int → Prop := fun _ => True
def out_choose {K : PySem.W.Frag} {mg : Str → Option Value} (T : Tx K mg) : Int × Int → Out := fun a => outI K (chE a.1 a.2)
theorem rng {K : PySem.W.Frag} {mg : Str → Option Value} (T : Tx K mg) {W : WX} {ps : Kn} {t1 t2 t3 : TE} {v lo hi : Int} (h1 : JD K T.M W t1 ps (.int v)) (h2 : JD K T.M W t2 ps (.int lo)) (h3 : JD K T.M W t3 ps (.int hi)) : JE K T.M W (tCallS (Prm K T.M (args_check_range T) dom_check_range (out_check_range T)) (WE W) (tCons t1 (tCons t2 (tCons t3 tNil)))) ps (match inR lo v hi with | true => .ok (dv K .none) | false => .er ⟨.TooFar, .int v⟩) :=
  je_call (args := args_check_range T) (dom := dom_check_range) (out := out_check_range T) (v, lo, hi) (ja_cons h1 (ja_cons h2 (ja_cons h3 ja_nil))) trivial
theorem ok_choose {P : Program} {w : World} {K : PySem.W.Frag} {mg : Str → Option Value} {base : Heap} (T : Tx K mg) : FnOk P w K mg base (L2.CX P w) 4 T.a_choose T.fd_choose ["n", "k"] (Prm K T.M (args_choose T) dom_choose (out_choose T)) := by
  refine T.F_choose.okX sc_choose (fun vs H Q E h => by obtain ⟨a, F, _, al, _⟩ := h; exact al.length) (fun cdv A outer s H vs Q E hr h => ?_)
  have tk : Takes (cxOf (L2.CX P w) P w K mg base N_choose "choose" (defScope s_choose) T.a_choose cdv A outer s H E) (fun cls d _ H => E cls d H) := takes_of rfl rfl rfl rfl
  obtain ⟨a, F, fh, al, hd, th⟩ := h
  refine ⟨_, (pss_cons (ps_expr (pe_callS (ok_check_range T) (hr.mono (by decide)) (by rfl) T.g_check_range T.F_check_range.kp (b_check_range T) (fun σ => passAt tk σ) (pa_cons (pv 0) (pa_cons pe_int (pa_cons pe_int pa_nil)))))
      (pss_cons (ps_expr (pe_callS (ok_check_range T) (hr.mono (by decide)) (by rfl) T.g_check_range T.F_check_range.kp (b_check_range T) (fun σ => passAt tk σ) (pa_cons (pv 1) (pa_cons (pe_un un_neg pe_int) (pa_cons pe_int pa_nil)))))
      (pss_one (ps_ret (pe_ifExp (pt_cmpR op_ge (pv 1) pe_int (nomark _)) (pe_callG (id := "math.comb") cr_comb (by rfl) T.g_comb (pa_cons (pv 0) (pa_cons (pv 1) pa_nil))) pe_int))))), ?_⟩
  obtain ⟨n, k⟩ := a
  let W0 : WX := fun cls d _ H => E cls d H
  have ho : out_choose T (n, k) = outI K (chE n k) := rfl
  rw [ho] at th
  have h1 := rng T (W := W0) (ps := entry N_choose (args_choose T (n, k))) (v := n) (lo := 0) (hi := 60) (je_var (i := 0) rfl) je_int je_int
  have h2 := rng T (W := W0) (ps := entry N_choose (args_choose T (n, k))) (v := k) (lo := -60) (hi := 60) (je_var (i := 1) rfl) (je_neg je_int) je_int
  unfold chE at th
  cases b1 : inR 0 n 60 with
  | false =>
    rw [b1] at h1 th
    exact fin_ok (r := .er ⟨.TooFar, .int n⟩) (js_er (js_drop h1)) (by exact rfl) fh al th
  | true =>
    rw [b1] at h1 th
    cases b2 : inR (-60) k 60 with
    | false =>
      rw [b2] at h2 th
      exact fin_ok (r := .er ⟨.TooFar, .int k⟩) (js_seq (js_drop h1) (js_er (js_drop h2))) (by exact rfl) fh al th
    | true =>
      rw [b2] at h2 th
      dsimp only at th
      unfold inR at b1 b2
      rw [Bool.and_eq_true, decide_eq_true_eq, decide_eq_true_eq] at b1 b2
      refine fin_ok (r := .rt (dv K (.int (if 0 ≤ k then mcComb n k else 0)))) (js_seq (js_drop h1) (js_seq (js_drop h2) (js_ret (je_if (jt_test (je_ge (je_var (i := 1) rfl) je_int)) (fun z => ?_) fun z => ?_)))) (by exact rfl) fh al th
      · have z2 : 0 ≤ k := of_decide_eq_true z
        rw [if_pos z2]
        exact je_comb (je_var (i := 0) rfl) (je_var (i := 1) rfl) b1.1 z2 (by omega) (by omega)
      · have z2 : ¬ 0 ≤ k := of_decide_eq_false z
        rw [if_neg z2]
        exact je_int
end K02

namespace K02
open PySem PySem.Spec PyProof.Rows L2 Evl EB PySem.W
def cell (ns : List Int) (i : Nat) : Int := match ns[i]? with
  | some v => if v < 0 then -v else v
  | none => 0
def intsD (ns : List Int) : List PyData := ns.map .int
def args__law_cell {K : PySem.W.Frag} {mg : Str → Option Value} (T : Tx K mg) : List Int × Nat → List PV := fun a => [dv K (.list (intsD a.1)), dv K (.int a.2)]
def dom__law_cell : List Int × Nat → Prop := fun _ => True
def out__law_cell {K : PySem.W.Frag} {mg : Str → Option Value} (T : Tx K mg) : List Int × Nat → Out := fun a => .ok (dv K (.int (cell a.1 a.2)))
theorem ok__law_cell {P : Program} {w : World} {K : PySem.W.Frag} {mg : Str → Option Value} {base : Heap} (T : Tx K mg) : FnOk P w K mg base (L2.CX P w) 1 T.a__law_cell T.fd__law_cell ["cells", "place"] (Prm K T.M (args__law_cell T) dom__law_cell (out__law_cell T)) := by
  refine T.F__law_cell.okX sc__law_cell (fun vs H Q E h => by obtain ⟨a, F, _, al, _⟩ := h; exact al.length) (fun cdv A outer s H vs Q E hr h => ?_)
  have tk : Takes (cxOf (L2.CX P w) P w K mg base N__law_cell "_law_cell" (defScope s__law_cell) T.a__law_cell cdv A outer s H E) (fun cls d _ H => E cls d H) := takes_of rfl rfl rfl rfl
  obtain ⟨a, F, fh, al, hd, th⟩ := h
  refine ⟨_, (pss_cons (ps_if (pt_cmpR op_lt (pv 1) (pe_callB call_len_seq (by rfl) T.z_len PySem.boot_len (pa_cons (pv 0) pa_nil)) (nomark _)) (pss_one (ps_ret (pe_callB call_abs (by rfl) T.z_abs (by decide +kernel) (pa_cons (pe_ix ix_list (pv 0) (pv 1) (fun _ _ => rfl)) pa_nil)))) pss_nil)
      (pss_one (ps_ret pe_int))), ?_⟩
  obtain ⟨ns, i⟩ := a
  by_cases h : i < ns.length
  · refine fin_ok (r := .rt (dv K (.int (cell ns i)))) (js_rt (js_if (b := true) (jt_is (jt_test (je_lt (je_var (i := 1) rfl) (je_lenL (je_var (i := 0) rfl)))) ?_) (fun _ => js_ret ?_) (fun z => Bool.noConfusion z))) (by exact rfl) fh al th
    · unfold intsD
      rw [List.length_map]
      exact decide_eq_true (by dsimp only; omega)
    · have e : cell ns i = if ns[i] < 0 then -ns[i] else ns[i] := by
        unfold cell
        rw [List.getElem?_eq_getElem h]
      rw [e]
      refine je_abs (je_ixL (je_var (i := 0) rfl) (je_var (i := 1) rfl) (atI_nat ?_))
      unfold intsD
      rw [List.getElem?_map, List.getElem?_eq_getElem h]
      rfl
  · refine fin_ok (r := .rt (dv K (.int (cell ns i)))) (js_seq (js_if (b := false) (jt_is (jt_test (je_lt (je_var (i := 1) rfl) (je_lenL (je_var (i := 0) rfl)))) ?_) (fun z => Bool.noConfusion z) (fun _ => js_next)) (js_ret ?_)) (by exact rfl) fh al th
    · unfold intsD
      rw [List.length_map]
      exact decide_eq_false (by dsimp only; omega)
    · rw [show cell ns i = 0 by unfold cell; rw [List.getElem?_eq_none (by omega)]]
      exact je_int
def args__law_whole {K : PySem.W.Frag} {mg : Str → Option Value} (T : Tx K mg) : Int → List PV := fun a => [dv K (.int a)]
def dom__law_whole : Int → Prop := fun _ => True
def out__law_whole {K : PySem.W.Frag} {mg : Str → Option Value} (T : Tx K mg) : Int → Out := fun _ => .ok (dv K (.bool true))
theorem ok__law_whole {P : Program} {w : World} {K : PySem.W.Frag} {mg : Str → Option Value} {base : Heap} (T : Tx K mg) : FnOk P w K mg base (L2.CX P w) 1 T.a__law_whole T.fd__law_whole ["thing"] (Prm K T.M (args__law_whole T) dom__law_whole (out__law_whole T)) := by
  refine T.F__law_whole.okX sc__law_whole (fun vs H Q E h => by obtain ⟨a, F, _, al, _⟩ := h; exact al.length) (fun cdv A outer s H vs Q E hr h => ?_)
  have tk : Takes (cxOf (L2.CX P w) P w K mg base N__law_whole "_law_whole" (defScope s__law_whole) T.a__law_whole cdv A outer s H E) (fun cls d _ H => E cls d H) := takes_of rfl rfl rfl rfl
  obtain ⟨a, F, fh, al, hd, th⟩ := h
  refine ⟨_, (pss_one (ps_ret (pe_and (pe_callB call_isi (by rfl) T.z_isinstance PyProof.Rows.boot_isinstance (pa_cons (pv 0) (pa_cons (pe_bltn (v := .ty "int") (by rfl) T.z_int PyProof.Rows.boot_int rfl) pa_nil))) (pe_one (pe_not (pe_callB call_isi (by rfl) T.z_isinstance PyProof.Rows.boot_isinstance (pa_cons (pv 0) (pa_cons (pe_bltn (v := .ty "bool") (by rfl) T.z_bool PyProof.Rows.boot_bool rfl) pa_nil)))))))), ?_⟩
  exact fin_ok (r := .rt (dv K (.bool true))) (js_ret (je_andV (a := true) (b := true) (je_isTyI (je_var (i := 0) rfl) (by decide)) (fun _ => je_notV (a := false) (je_isTyI (je_var (i := 0) rfl) (by decide))))) (by exact rfl) fh al th

section
variable {K : PySem.W.Frag} {M : EC → Addr} {W : WX} {ps qs : Kn} {t : TT} {ts tu tv : TS} {te : TE} {P : PV} {r : Res} {ds : List PyData}
theorem js_rT (h : JT K M W t ps true) (k : JS K M W ts ps (.rt P)) : JS K M W (tSeq (tIfS t ts tv) tu) ps (.rt P) := js_rt (js_if h (fun _ => k) (fun z => Bool.noConfusion z))
theorem js_rF (h : JT K M W t ps false) (k : JS K M W tu ps r) : JS K M W (tSeq (tIfS t ts tNext) tu) ps r := js_seq (js_if h (fun z => Bool.noConfusion z) (fun _ => js_next)) k rfl
theorem jn_listT (h : JD K M W te ps (.tuple ds)) : JN K (tCB (rListS K) (tCons te tNil)) ps ds := fun σ F H Q fh S c => h.go fh S fun v F1 H1 e p => by
  obtain ⟨a, xs, rfl, hs, hd⟩ := dp_tup p
  exact ⟨a, xs, rfl, .inr (ex_t e.fh hs), fun D hD => c D F1 _ ⟨gr_mut e (fresh_back e.hh hD) (fresh_back e.fh hD), fresh_back e.fh hD, xs, upd_same, hd⟩ (fresh_back e.hh hD)⟩
theorem jn_listQ {b : Bool} (h : JD K M W te ps (sq b ds)) : JN K (tCB (rListS K) (tCons te tNil)) ps ds := by
  cases b with
  | true => exact jn_listL h
  | false => exact jn_listT h
theorem jl_forN {D : Addr} {F1 H1 : Hp} {vs : List Nat} {wi : TI} {g : TG} {tb : TS} {n : Nat} (xs : List PyData) (f : Nat → Kn) (l : Nat → List PyData) (hn : xs.length = n) (hi : JI K M W wi ps xs) (h0 : f 0 = ps) (hl0 : l 0 = ds)
    (hs : ∀ (j : Nat) (d : PyData), xs[j]? = some d → ∃ qs, JG vs g (f j) (dv K d) qs ∧ JL K M W D F1 H1 tb qs (l j) (.nx (f (j + 1)) (l (j + 1)))) : JL K M W D F1 H1 (tFor wi g tb) ps ds (.nx (f n) (l n)) := by
  subst hn
  exact jl_for xs f l hi h0 hl0 hs
/-- v = e, an int that is read off a list of one's own -/
theorem jl_asgI {D : Addr} {F1 H1 : Hp} {i j : Nat} {v : Int} (hi : ps[i]? = some (some (xv (.ref D)))) (h : JD K M W te (ps.set i (some (dv K (.list ds)))) (.int v)) : JL K M W D F1 H1 (tAsg te (gName j)) ps ds (.nx (ps.set j (some (dv K (.int v)))) ds) := fun Dn σ F H A S k => by
  obtain ⟨acc0, h00, hd0⟩ := A.at_
  obtain ⟨F0, x0, x1, S0, _⟩ := acc_told A S hi
  refine h.go x1 S0 fun x F2 H2 g p => ?_
  rw [dp_int p]
  have A2 : EB.Acc K D F1 H1 F H2 ds := ⟨⟨A.gr.ff, A.gr.hh.trans g.hh, A.gr.fh.trans g.hh, A.gr.nw⟩, A.off, acc0, g.hh _ _ h00, hd0⟩
  exact k _ F H2 A2 (Ex.refl _) (S.set j (.int v))
end
def lenF (c : Int) : Int := if c % 8 = 7 then 60 + c / 8 % 7 else if c % 8 = 6 then c / 8 % 65 else if c % 8 = 5 then c / 8 % 33 else (c / 8 + 5) % 9
theorem lenF_r (c : Int) : 0 ≤ lenF c ∧ lenF c ≤ 66 := by
  unfold lenF
  split
  · omega
  · split
    · omega
    · split <;> omega
def args__law_length {K : PySem.W.Frag} {mg : Str → Option Value} (T : Tx K mg) : Int → List PV := fun a => [dv K (.int a)]
def dom__law_length : Int → Prop := fun _ => True
def out__law_length {K : PySem.W.Frag} {mg : Str → Option Value} (T : Tx K mg) : Int → Out := fun a => .ok (dv K (.int (lenF a)))
theorem ok__law_length {P : Program} {w : World} {K : PySem.W.Frag} {mg : Str → Option Value} {base : Heap} (T : Tx K mg) : FnOk P w K mg base (L2.CX P w) 1 T.a__law_length T.fd__law_length ["c"] (Prm K T.M (args__law_length T) dom__law_length (out__law_length T)) := by
  refine T.F__law_length.okX sc__law_length (fun vs H Q E h => by obtain ⟨a, F, _, al, _⟩ := h; exact al.length) (fun cdv A outer s H vs Q E hr h => ?_)
  have tk : Takes (cxOf (L2.CX P w) P w K mg base N__law_length "_law_length" (defScope s__law_length) T.a__law_length cdv A outer s H E) (fun cls d _ H => E cls d H) := takes_of rfl rfl rfl rfl
  obtain ⟨a, F, fh, al, hd, th⟩ := h
  refine ⟨_, (pss_cons (ps_if (pt_cmpR op_eq (pe_op op_mod (pe_callTy call_int1 (by rfl) T.z_int PyProof.Rows.boot_int (pa_cons (pv 0) pa_nil)) pe_int) pe_int (nomark _)) (pss_one (ps_ret (pe_op op_add pe_int (pe_op op_mod (pe_callTy call_int1 (by rfl) T.z_int PyProof.Rows.boot_int (pa_cons (pe_op op_fdiv (pv 0) pe_int) pa_nil)) pe_int)))) pss_nil)
      (pss_cons (ps_if (pt_cmpR op_eq (pe_op op_mod (pe_callTy call_int1 (by rfl) T.z_int PyProof.Rows.boot_int (pa_cons (pv 0) pa_nil)) pe_int) pe_int (nomark _)) (pss_one (ps_ret (pe_op op_mod (pe_callTy call_int1 (by rfl) T.z_int PyProof.Rows.boot_int (pa_cons (pe_op op_fdiv (pv 0) pe_int) pa_nil)) pe_int))) pss_nil)
      (pss_cons (ps_if (pt_cmpR op_eq (pe_op op_mod (pe_callTy call_int1 (by rfl) T.z_int PyProof.Rows.boot_int (pa_cons (pv 0) pa_nil)) pe_int) pe_int (nomark _)) (pss_one (ps_ret (pe_op op_mod (pe_callTy call_int1 (by rfl) T.z_int PyProof.Rows.boot_int (pa_cons (pe_op op_fdiv (pv 0) pe_int) pa_nil)) pe_int))) pss_nil)
      (pss_one (ps_ret (pe_op op_mod (pe_callTy call_int1 (by rfl) T.z_int PyProof.Rows.boot_int (pa_cons (pe_op op_add (pe_op op_fdiv (pv 0) pe_int) pe_int) pa_nil)) pe_int)))))), ?_⟩
  let W0 : WX := fun cls d _ H => E cls d H
  have ho : out__law_length T a = .ok (dv K (.int (lenF a))) := rfl
  rw [ho] at th
  let e0 := entry N__law_length (args__law_length T a)
  have md : ∀ n : Int, JT K T.M W0 (tTest (tOp rEq (tOp (rI (fun _ j => 0 < j) fun i j => .int (i % j)) (tCB rInt1 (tCons (tVar 0) tNil)) (tC (.int 8))) (tC (.int n)))) e0 (decide (a % 8 = n)) := fun n => jt_test (je_eqI (je_mod (je_intI (je_var (i := 0) rfl)) je_int (by decide)) je_int)
  have d8 : JD K T.M W0 (tOp (rI CDiv fun i j => .int (i / j)) (tVar 0) (tC (.int 8))) e0 (.int (a / 8)) := je_div (je_var (i := 0) rfl) je_int ⟨by decide, by decide⟩
  refine fin_ok (r := .rt (dv K (.int (lenF a)))) ?_ (by exact rfl) fh al th
  unfold lenF
  by_cases h7 : a % 8 = 7
  · rw [if_pos h7]
    exact js_rT (jt_is (md 7) (decide_eq_true h7)) (js_ret (je_add je_int (je_mod (je_intI d8) je_int (by decide))))
  · rw [if_neg h7]
    refine js_rF (jt_is (md 7) (decide_eq_false h7)) ?_
    by_cases h6 : a % 8 = 6
    · rw [if_pos h6]
      exact js_rT (jt_is (md 6) (decide_eq_true h6)) (js_ret (je_mod (je_intI d8) je_int (by decide)))
    · rw [if_neg h6]
      refine js_rF (jt_is (md 6) (decide_eq_false h6)) ?_
      by_cases h5 : a % 8 = 5
      · rw [if_pos h5]
        exact js_rT (jt_is (md 5) (decide_eq_true h5)) (js_ret (je_mod (je_intI d8) je_int (by decide)))
      · rw [if_neg h5]
        exact js_rF (jt_is (md 5) (decide_eq_false h5)) (js_ret (je_mod (je_intI (je_add d8 je_int)) je_int (by decide)))
/-! ### the drawn row -/
def SPN : Int := 20000000000000000000000000000000000000001
def restN (c : Int) : Nat → Int
  | 0 => c
  | k + 1 => restN c k / SPN
def bsL : List Int := [3, -1, 4, 1, -5, 9, 2, -6, 5, 8]
def rowV (cells : List Int) (k : Nat) : Int := (restN (cell cells 1) k % SPN + cell cells (2 + k % 8) + bsL.getD (k % 10) 0 + M40) % SPN - M40
def rowW (cells : List Int) (many : Nat) : List Int := (List.range many).map (rowV cells)
def args__law_row {K : PySem.W.Frag} {mg : Str → Option Value} (T : Tx K mg) : List Int × Nat → List PV := fun a => [dv K (.list (intsD a.1)), dv K (.int a.2)]
def dom__law_row : List Int × Nat → Prop := fun a => a.2 ≤ 70
def out__law_row : List Int × Nat → List PyData := fun a => (rowW a.1 a.2).map .int
theorem ok__law_row {P : Program} {w : World} {K : PySem.W.Frag} {mg : Str → Option Value} {base : Heap} (T : Tx K mg) : FnOk P w K mg base (L2.CX P w) 2 T.a__law_row T.fd__law_row ["cells", "many"] (PrmN K (args__law_row T) dom__law_row out__law_row) := by
  refine T.F__law_row.okX sc__law_row (fun vs H Q E h => by obtain ⟨a, F, _, al, _⟩ := h; exact al.length) (fun cdv A outer s H vs Q E hr h => ?_)
  have tk : Takes (cxOf (L2.CX P w) P w K mg base N__law_row "_law_row" (defScope s__law_row) T.a__law_row cdv A outer s H E) (fun cls d _ H => E cls d H) := takes_of rfl rfl rfl rfl
  obtain ⟨a, F, fh, al, hd, th⟩ := h
  refine ⟨_, (pss_cons (ps_set (i := 2) sc__law_row.nd rfl (by first | exact Or.inl rfl | exact Or.inr rfl) (pe_op op_add (pe_op op_mul pe_int (pe_op op_pow pe_int pe_int)) pe_int))
      (pss_cons (ps_set (i := 3) sc__law_row.nd rfl (by first | exact Or.inl rfl | exact Or.inr rfl) (pe_tup (pa_cons pe_int (pa_cons (pe_un un_neg pe_int) (pa_cons pe_int (pa_cons pe_int (pa_cons (pe_un un_neg pe_int) (pa_cons pe_int (pa_cons pe_int (pa_cons (pe_un un_neg pe_int) (pa_cons pe_int (pa_cons pe_int pa_nil))))))))))))
      (pss_cons (ps_set (i := 4) sc__law_row.nd rfl (by first | exact Or.inl rfl | exact Or.inr rfl) (pe_callS (ok__law_cell T) (hr.mono (by decide)) (by rfl) T.g__law_cell T.F__law_cell.kp (b__law_cell T) (fun σ => passAt tk σ) (pa_cons (pv 0) (pa_cons pe_int pa_nil))))
      (pss_cons (ps_set (i := 5) sc__law_row.nd rfl (by first | exact Or.inl rfl | exact Or.inr rfl) (pe_lst pa_nil))
      (pss_cons (ps_for (passes_of rfl) rfl (pi_range1 (by rfl) T.z_range (pa_cons (pv 1) pa_nil)) (pg_name (i := 6) sc__law_row.nd rfl (by first | exact Or.inl rfl | exact Or.inr rfl)) (pss_cons (ps_set (i := 7) sc__law_row.nd rfl (by first | exact Or.inl rfl | exact Or.inr rfl) (pe_op op_add (pe_op op_mod (pe_callTy call_int1 (by rfl) T.z_int PyProof.Rows.boot_int (pa_cons (pv 4) pa_nil)) (pv 2)) (pe_callS (ok__law_cell T) (hr.mono (by decide)) (by rfl) T.g__law_cell T.F__law_cell.kp (b__law_cell T) (fun σ => passAt tk σ) (pa_cons (pv 0) (pa_cons (pe_op op_add pe_int (pe_op op_mod (pv 6) pe_int)) pa_nil)))))
      (pss_cons (ps_expr (pe_bm PySem.F.plainAttrs_list PySem.F.slot_list_append PySem.F.type_list_append mt_append (pv 5) (pa_cons (pe_op op_sub (pe_op op_mod (pe_callTy call_int1 (by rfl) T.z_int PyProof.Rows.boot_int (pa_cons (pe_op op_add (pe_op op_add (pv 7) (pe_ix ix_tup (pv 3) (pe_op op_mod (pv 6) pe_int) (fun _ _ => rfl))) (pe_op op_pow pe_int pe_int)) pa_nil)) (pv 2)) (pe_op op_pow pe_int pe_int)) pa_nil)))
      (pss_one (ps_set (i := 4) sc__law_row.nd rfl (by first | exact Or.inl rfl | exact Or.inr rfl) (pe_op op_fdivW (pv 4) (pv 2)))))))
      (pss_one (ps_ret (pv 5)))))))), ?_⟩
  obtain ⟨cells, many⟩ := a
  have hm : many ≤ 70 := hd
  let W0 : WX := fun cls d _ H => E cls d H
  let cd : PV := dv K (.list (intsD cells))
  let md : PV := dv K (.int many)
  let bd : PV := dv K (.tuple (bsL.map .int))
  have p40 : ∀ ps : Kn, JD K T.M W0 (tOp (rI CPow fun i j => .int (i ^ j.toNat)) (tC (.int 10)) (tC (.int 40))) ps (.int M40) := fun ps => je_is (je_pow je_int je_int ⟨by decide, by decide, by decide⟩) (congrArg PyData.int (by decide))
  have pc : ∀ (ps : Kn) (k : Nat) (ti : TE), ps[0]? = some (some cd) → JD K T.M W0 ti ps (.int k) → JD K T.M W0 (tCallS (Prm K T.M (args__law_cell T) dom__law_cell (out__law_cell T)) (WE W0) (tCons (tVar 0) (tCons ti tNil))) ps (.int (cell cells k)) := fun ps k ti h hk => je_call (args := args__law_cell T) (dom := dom__law_cell) (out := out__law_cell T) (cells, k) (ja_cons (je_var (i := 0) h) (ja_cons hk ja_nil)) trivial
  let f : Nat → Kn := fun k => [some cd, some md, some (dv K (.int SPN)), some bd, some (dv K (.int (restN (cell cells 1) k)))]
  refine fin_neO (jsn_seq (js_set (i := 2) (P := dv K (.int SPN)) (je_is (je_add (je_mul je_int (p40 _) (near_mul (by decide))) je_int) (congrArg PyData.int (by decide))))
    (jsn_seq (js_set (i := 3) (P := bd) (je_tup (ds := bsL.map .int) (ja_cons je_int (ja_cons (je_neg je_int) (ja_cons je_int (ja_cons je_int (ja_cons (je_neg je_int) (ja_cons je_int (ja_cons je_int (ja_cons (je_neg je_int) (ja_cons je_int (ja_cons je_int ja_nil))))))))))))
    (jsn_seq (js_set (i := 4) (P := dv K (.int (cell cells 1))) (pc _ 1 _ rfl je_int))
    (jsn_own (i := 5) (jn_lst (M := T.M) (W := W0) (ds := []) ja_nil) fun D F1 H1 hD => jq_seq (jl_forN (n := many) (M := T.M) (W := W0) (vs := [6]) ((List.range many).map fun (k : Nat) => PyData.int (k : Int)) (fun k => f k ++ [some (xv (.ref D)), none, none]) (fun k => (rowW cells k).map .int) (by rw [List.length_map, List.length_range]) (ji_uptoN (n := many) (je_var (i := 1) rfl) (by omega)) rfl rfl fun k d hk => ?_) (jq_is (jq_ret (i := 5) rfl hD) (by rfl)))))) fh al th
  · have hlt : k < many := by
      have := (List.getElem?_eq_some_iff.mp hk).1
      rw [List.length_map, List.length_range] at this
      exact this
    rw [List.getElem?_map, List.getElem?_range hlt] at hk
    cases hk
    let f6 : Kn := f k ++ [some (xv (.ref D)), some (dv K (.int (k : Int))), none]
    let v7 : Int := restN (cell cells 1) k % SPN + cell cells (2 + k % 8)
    let f7 : Kn := f k ++ [some (xv (.ref D)), some (dv K (.int (k : Int))), some (dv K (.int v7))]
    refine ⟨f6, jg_name, jl_seq (qs := f7) (jl_js (js_set (i := 7) (P := dv K (.int v7)) (je_add (je_mod (je_intI (je_var (i := 4) rfl)) (je_var (i := 2) rfl) (by decide)) (pc f6 (2 + k % 8) _ rfl (je_is (je_add je_int (je_mod (je_var (i := 6) rfl) je_int (by decide))) (congrArg PyData.int (by omega)))))))
      (jl_seq (qs := f7) (es := (rowW cells (k + 1)).map .int) (jl_is (jl_app (i := 5) (d := .int (rowV cells k)) rfl hD (ja_cons (je_sub (je_mod (je_intI (je_add (je_add (je_var (i := 7) rfl) (je_ixT (je_var (i := 3) rfl) (je_is (je_mod (je_var (i := 6) rfl) je_int (by decide)) (congrArg PyData.int (show (k : Int) % 10 = ((k % 10 : Nat) : Int) by omega))) (at_getD (row := bsL) (m := k % 10) (show k % 10 < 10 by omega)))) (p40 f7))) (je_var (i := 2) rfl) (by decide)) (p40 f7)) ja_nil) (by rw [List.length_map]; unfold rowW; rw [List.length_map, List.length_range]; omega)) ?_)
      (jl_weak (jl_js (js_set (i := 4) (P := dv K (.int (restN (cell cells 1) (k + 1)))) (je_divW (je_var (i := 4) rfl) (je_var (i := 2) rfl) ⟨by decide, by decide⟩))) ⟨.inr rfl, .inr rfl, .inr rfl, .inr rfl, .inr rfl, .inr rfl, .inl rfl, .inl rfl, trivial⟩))⟩
    unfold rowW
    rw [List.range_succ, List.map_append, List.map_append]
    rfl
end K02

namespace K02
open PySem PySem.Spec PyProof.Rows L2 Evl EB PySem.W
theorem mapI_at {row : List Int} {i : Nat} {d : PyData} (h : (row.map PyData.int)[i]? = some d) : ∃ hl : i < row.length, d = .int row[i] := by
  have hl : i < row.length := by
    have := (List.getElem?_eq_some_iff.mp h).1
    rw [List.length_map] at this
    exact this
  rw [List.getElem?_map, List.getElem?_eq_getElem hl] at h
  cases h
  exact ⟨hl, rfl⟩
theorem rngI_at {n i : Nat} {d : PyData} (h : ((List.range n).map fun (k : Nat) => PyData.int (k : Int))[i]? = some d) : i < n ∧ d = .int (i : Int) := by
  have hl : i < n := by
    have := (List.getElem?_eq_some_iff.mp h).1
    rw [List.length_map, List.length_range] at this
    exact this
  rw [List.getElem?_map, List.getElem?_range hl] at h
  cases h
  exact ⟨hl, rfl⟩
theorem getD_at {row : List Int} {i : Nat} (h : i < row.length) : row.getD i 0 = row[i] := by simp [h]
/-! ### totals -/
def args__law_totals {K : PySem.W.Frag} {mg : Str → Option Value} (T : Tx K mg) : List Int → List PV := fun a => [dv K (.list (a.map .int))]
def dom__law_totals : List Int → Prop := fun a => a.length ≤ 1000
def out__law_totals : List Int → List PyData := fun a => (KM.tots 0 a).map .int
theorem ok__law_totals {P : Program} {w : World} {K : PySem.W.Frag} {mg : Str → Option Value} {base : Heap} (T : Tx K mg) : FnOk P w K mg base (L2.CX P w) 1 T.a__law_totals T.fd__law_totals ["row"] (PrmN K (args__law_totals T) dom__law_totals out__law_totals) := by
  refine T.F__law_totals.okX sc__law_totals (fun vs H Q E h => by obtain ⟨a, F, _, al, _⟩ := h; exact al.length) (fun cdv A outer s H vs Q E hr h => ?_)
  have tk : Takes (cxOf (L2.CX P w) P w K mg base N__law_totals "_law_totals" (defScope s__law_totals) T.a__law_totals cdv A outer s H E) (fun cls d _ H => E cls d H) := takes_of rfl rfl rfl rfl
  obtain ⟨a, F, fh, al, hd, th⟩ := h
  refine ⟨_, (pss_cons (ps_set (i := 1) sc__law_totals.nd rfl (by first | exact Or.inl rfl | exact Or.inr rfl) (pe_lst pa_nil))
      (pss_cons (ps_set (i := 2) sc__law_totals.nd rfl (by first | exact Or.inl rfl | exact Or.inr rfl) pe_int)
      (pss_cons (ps_for (passes_of rfl) rfl (pi_list (pv 0)) (pg_name (i := 3) sc__law_totals.nd rfl (by first | exact Or.inl rfl | exact Or.inr rfl)) (pss_cons (ps_set (i := 2) sc__law_totals.nd rfl (by first | exact Or.inl rfl | exact Or.inr rfl) (pe_op op_add (pv 2) (pv 3)))
      (pss_one (ps_expr (pe_bm PySem.F.plainAttrs_list PySem.F.slot_list_append PySem.F.type_list_append mt_append (pv 1) (pa_cons (pv 2) pa_nil))))))
      (pss_one (ps_ret (pv 1)))))), ?_⟩
  have hl : a.length ≤ 1000 := hd
  let W0 : WX := fun cls d _ H => E cls d H
  let f : Addr → Nat → Kn := fun D i => [some (dv K (.list (a.map .int))), some (xv (.ref D)), some (dv K (.int ((a.take i).sum))), none]
  refine fin_neO (jsn_own (i := 1) (jn_lst (M := T.M) (W := W0) (ds := []) ja_nil) fun D F1 H1 hD => jq_seq (qs := f D 0) (jl_js (js_set (i := 2) (P := dv K (.int 0)) je_int))
    (jq_seq (jl_forN (n := a.length) (M := T.M) (W := W0) (vs := [3]) (a.map .int) (f D) (fun i => (KM.tots 0 (a.take i)).map .int) (by rw [List.length_map]) (ji_list (je_var (i := 0) rfl)) rfl rfl fun i d hi => ?_) (jq_is (jq_ret (i := 1) rfl hD) (by rw [List.take_length]; rfl)))) fh al th
  obtain ⟨hlt, rfl⟩ := mapI_at hi
  have es : (a.take (i + 1)).sum = (a.take i).sum + a[i] := by
    rw [List.take_succ_eq_append_getElem hlt, List.sum_append]
    simp
  have et : KM.tots 0 (a.take (i + 1)) = KM.tots 0 (a.take i) ++ [(a.take (i + 1)).sum] := by
    rw [es, List.take_succ_eq_append_getElem hlt, KM.tots_app, Int.zero_add]
  refine ⟨_, jg_name, jl_seq (jl_js (js_set (i := 2) (P := dv K (.int ((a.take (i + 1)).sum))) (je_is (je_add (je_var (i := 2) rfl) (je_var (i := 3) rfl)) (by rw [es]))))
    (jl_weak (jl_is (jl_app (i := 1) (d := .int ((a.take (i + 1)).sum)) rfl hD (ja_cons (je_var (i := 2) rfl) ja_nil) (by rw [List.length_map, KM.tots_len, List.length_take]; omega)) (by rw [et, List.map_append]; rfl)) ⟨.inr rfl, .inr rfl, .inr rfl, .inl rfl, trivial⟩)⟩
/-! ### differences -/
def args__law_differences {K : PySem.W.Frag} {mg : Str → Option Value} (T : Tx K mg) : List Int → List PV := fun a => [lv K (a.map .int)]
def dom__law_differences : List Int → Prop := fun a => a.length ≤ 900
def out__law_differences : List Int → List PyData := fun a => (KM.difs 0 a).map .int
theorem lst_get {α : Type} {f : Nat → Int} {L : List Int} {n : Nat} (h : L.length = n) (e : ∀ i, i < n → L.getD i 0 = f i) : (List.range n).map (fun i => PyData.int (f i)) = L.map .int := by
  apply List.ext_getElem?
  intro i
  rw [List.getElem?_map, List.getElem?_map]
  by_cases hi : i < n
  · rw [List.getElem?_range hi, List.getElem?_eq_getElem (by omega)]
    have := e i hi
    rw [getD_at (by omega)] at this
    rw [this]
    rfl
  · rw [List.getElem?_eq_none (by rw [List.length_range]; omega), List.getElem?_eq_none (by omega)]
    rfl
theorem ok__law_differences {P : Program} {w : World} {K : PySem.W.Frag} {mg : Str → Option Value} {base : Heap} (T : Tx K mg) : FnOk P w K mg base (L2.CX P w) 1 T.a__law_differences T.fd__law_differences ["row"] (PrmN K (args__law_differences T) dom__law_differences out__law_differences) := by
  refine T.F__law_differences.okX sc__law_differences (fun vs H Q E h => by obtain ⟨a, F, _, al, _⟩ := h; exact al.length) (fun cdv A outer s H vs Q E hr h => ?_)
  have tk : Takes (cxOf (L2.CX P w) P w K mg base N__law_differences "_law_differences" (defScope s__law_differences) T.a__law_differences cdv A outer s H E) (fun cls d _ H => E cls d H) := takes_of rfl rfl rfl rfl
  obtain ⟨a, F, fh, al, hd, th⟩ := h
  refine ⟨_, (pss_cons (ps_set (i := 1) sc__law_differences.nd rfl (by first | exact Or.inl rfl | exact Or.inr rfl) (pe_op op_cat (pv 0) (pe_lst (pa_cons pe_int pa_nil))))
      (pss_cons (ps_set (i := 2) sc__law_differences.nd rfl (by first | exact Or.inl rfl | exact Or.inr rfl) (pe_op op_cat (pe_lst (pa_cons pe_int pa_nil)) (pv 0)))
      (pss_one (ps_ret (pe_lc (own := [("k", 3)]) (g := (gName 3)) (tt := tYes) (te := (tOp (rI0 fun i j => .int (i - j)) (tOp (rIxL K) (tVar 1) (tVar 3)) (tOp (rIxL K) (tVar 2) (tVar 3)))) rfl sc__law_differences.nd (pi_range1 (by rfl) T.z_range (pa_cons (pe_callB call_len_seq (by rfl) T.z_len PySem.boot_len (pa_cons (pv 1) pa_nil)) pa_nil)) (blkOk_by (N := N__law_differences) (sc := defScope s__law_differences) (own := [("k", 3)]) (by decide +kernel)) (fun _ _ _ _ _ => (pg_name (i := 3) sc__law_differences.nd rfl (by first | exact Or.inl rfl | exact Or.inr rfl))) (fun _ _ _ _ _ => by exact pts_nil) (fun _ _ _ _ _ => by exact (pe_op op_sub (pe_ix ix_list (pv 1) (pv 3) (fun _ _ => rfl)) (pe_ix ix_list (pv 2) (pv 3) (fun _ _ => rfl))))))))), ?_⟩
  have hl : a.length ≤ 900 := hd
  let W0 : WX := fun cls d _ H => E cls d H
  have z1 : ∀ ps : Kn, JV K T.M W0 (tLst (tCons (tC (.int 0)) tNil)) ps (lv K ([0].map .int)) := fun ps => je_lstV (ds := [.int 0]) (ja_cons je_int ja_nil)
  have longer : JV K T.M W0 (tOp rCat (tVar 0) (tLst (tCons (tC (.int 0)) tNil))) (entry N__law_differences (args__law_differences T a)) (lv K ((a ++ [0]).map .int)) := by
    rw [List.map_append]
    exact je_catV (je_var (i := 0) rfl) (z1 _) (by simp; omega)
  let ps1 : Kn := (entry N__law_differences (args__law_differences T a)).set 1 (some (lv K ((a ++ [0]).map .int)))
  have behind : JV K T.M W0 (tOp rCat (tLst (tCons (tC (.int 0)) tNil)) (tVar 0)) ps1 (lv K (([0] ++ a).map .int)) := by
    rw [List.map_append]
    exact je_catV (z1 _) (je_var (i := 0) rfl) (by simp; omega)
  refine fin_neO (jsn_seq (js_set (i := 1) longer) (jsn_seq (js_set (i := 2) behind) (jsn_ret (jn_is (jn_lc (M := T.M) (W := W0) (W' := fun _ _ _ _ => False) (List.range (a.length + 1)) (fun (s : Nat) => .int (s : Int)) (fun _ => true) (fun s => .int ((a ++ [0]).getD s 0 - ([0] ++ a).getD s 0)) (ji_uptoN (n := a.length + 1) (je_is (je_lenL (je_lvd (je_var (i := 1) rfl))) (by simp)) (by omega)) (by rw [List.length_range]; omega) fun s hs => ⟨_, jg_name, jt_yes, fun _ => ?_⟩) ?_)))) fh al th
  · have s64 := List.mem_range.mp hs
    exact je_sub (je_ixL (je_lvd (je_var (i := 1) rfl)) (je_var (i := 3) rfl) (at_getD (row := a ++ [0]) (m := s) (by simp; omega))) (je_ixL (je_lvd (je_var (i := 2) rfl)) (je_var (i := 3) rfl) (at_getD (row := [0] ++ a) (m := s) (by simp; omega)))
  · rw [filter_yes]
    show _ = (KM.difs 0 a).map PyData.int
    refine lst_get (α := Unit) (KM.difs_len a 0) fun i hi => ?_
    rw [KM.difs_get a 0 i (by omega)]
    have e1 : (a ++ [0]).getD i 0 = a.getD i 0 := by
      by_cases h : i < a.length
      · rw [getD_at (by simp; omega), getD_at h, List.getElem_append_left h]
      · have : i = a.length := by omega
        subst this
        simp
    rw [e1]
    rfl
/-! ### moved -/
def gW (t : Int) (s : List Int) (j : Nat) : List Int := (List.range (s.length + 1)).map fun i => (0 :: s).getD i 0 + if i < j then t * s.getD i 0 else 0
theorem gW_len (t : Int) (s : List Int) (j : Nat) : (gW t s j).length = s.length + 1 := by
  unfold gW
  rw [List.length_map, List.length_range]
theorem gW_get {t : Int} {s : List Int} {j i : Nat} (h : i < s.length + 1) : (gW t s j).getD i 0 = (0 :: s).getD i 0 + if i < j then t * s.getD i 0 else 0 := by
  rw [getD_at (by rw [gW_len]; exact h)]
  unfold gW
  rw [List.getElem_map, List.getElem_range]
theorem ext_getD {a b : List Int} (h : a.length = b.length) (e : ∀ i, i < a.length → a.getD i 0 = b.getD i 0) : a = b := by
  apply List.ext_getElem h
  intro i h1 h2
  have := e i h1
  rw [getD_at h1, getD_at h2] at this
  exact this
theorem set_getD {a : List Int} {j i : Nat} {v : Int} (h : i < a.length) : (a.set j v).getD i 0 = if j = i then v else a.getD i 0 := by
  rw [getD_at (by rw [List.length_set]; exact h), List.getElem_set, getD_at h]
theorem gW_zero (t : Int) (s : List Int) : gW t s 0 = 0 :: s := by
  refine ext_getD (by rw [gW_len]; rfl) fun i hi => ?_
  rw [gW_len] at hi
  rw [gW_get hi]
  simp
theorem gW_set {t : Int} {s : List Int} {j : Nat} (h : j < s.length) : (gW t s j).set j ((gW t s j).getD j 0 + t * s.getD j 0) = gW t s (j + 1) := by
  refine ext_getD (by rw [List.length_set, gW_len, gW_len]) fun i hi => ?_
  rw [List.length_set, gW_len] at hi
  rw [set_getD (by rw [gW_len]; exact hi), gW_get hi, gW_get hi, gW_get (by omega)]
  by_cases z : j = i
  · subst z
    rw [if_pos rfl, if_neg (by omega), if_pos (by omega), Int.add_zero]
  · rw [if_neg z]
    by_cases h2 : i < j
    · rw [if_pos h2, if_pos (by omega)]
    · rw [if_neg h2, if_neg (by omega)]
theorem gW_hz (t c : Int) (s : List Int) : (gW t s s.length).set 0 ((gW t s s.length).getD 0 0 + c) = KM.hz t c s := by
  refine ext_getD (by rw [List.length_set, gW_len, KM.hz_len]) fun i hi => ?_
  rw [List.length_set, gW_len] at hi
  rw [set_getD (by rw [gW_len]; exact hi), gW_get hi, gW_get (by omega), KM.hz_get]
  have hs : (if i < s.length then t * s.getD i 0 else 0) = t * s.getD i 0 := by
    by_cases h : i < s.length
    · rw [if_pos h]
    · rw [if_neg h, show s.getD i 0 = 0 by simp [h], Int.mul_zero]
  cases i with
  | zero =>
    rw [if_pos rfl, hs]
    simp
    omega
  | succ i =>
    rw [if_neg (by omega), hs, KM.getD_cons_succ, KM.getD_cons_succ]
def args__law_moved {K : PySem.W.Frag} {mg : Str → Option Value} (T : Tx K mg) : List Int × Int → List PV := fun a => [dv K (.list (a.1.map .int)), dv K (.int a.2)]
def dom__law_moved : List Int × Int → Prop := fun a => a.1.length ≤ 1000 ∧ -1000 ≤ a.2 ∧ a.2 ≤ 1000
def out__law_moved {K : PySem.W.Frag} {mg : Str → Option Value} (T : Tx K mg) : List Int × Int → Out := fun a => .ok (lv K ((KM.mv a.2 a.1).map .int))
theorem ok__law_moved {P : Program} {w : World} {K : PySem.W.Frag} {mg : Str → Option Value} {base : Heap} (T : Tx K mg) : FnOk P w K mg base (L2.CX P w) 1 T.a__law_moved T.fd__law_moved ["row", "step"] (Prm K T.M (args__law_moved T) dom__law_moved (out__law_moved T)) := by
  refine T.F__law_moved.okX sc__law_moved (fun vs H Q E h => by obtain ⟨a, F, _, al, _⟩ := h; exact al.length) (fun cdv A outer s H vs Q E hr h => ?_)
  have tk : Takes (cxOf (L2.CX P w) P w K mg base N__law_moved "_law_moved" (defScope s__law_moved) T.a__law_moved cdv A outer s H E) (fun cls d _ H => E cls d H) := takes_of rfl rfl rfl rfl
  obtain ⟨a, F, fh, al, hd, th⟩ := h
  refine ⟨_, (pss_cons (ps_set (i := 2) sc__law_moved.nd rfl (by first | exact Or.inl rfl | exact Or.inr rfl) (pe_lst pa_nil))
      (pss_cons (ps_for (passes_of rfl) rfl (pi_range1 (by rfl) T.z_range (pa_cons (pe_callB call_len_seq (by rfl) T.z_len PySem.boot_len (pa_cons (pv 0) pa_nil)) pa_nil)) (pg_name (i := 3) sc__law_moved.nd rfl (by first | exact Or.inl rfl | exact Or.inr rfl)) (pss_cons (ps_set (i := 4) sc__law_moved.nd rfl (by first | exact Or.inl rfl | exact Or.inr rfl) (pe_op op_cat (pe_lst (pa_cons pe_int pa_nil)) (pv 2)))
      (pss_cons (ps_for (passes_of rfl) rfl (pi_range1 (by rfl) T.z_range (pa_cons (pe_callB call_len_seq (by rfl) T.z_len PySem.boot_len (pa_cons (pv 2) pa_nil)) pa_nil)) (pg_name (i := 5) sc__law_moved.nd rfl (by first | exact Or.inl rfl | exact Or.inr rfl)) (pss_one (ps_asg (pe_op op_add (pe_ix ix_list (pv 4) (pv 5) (fun _ _ => rfl)) (pe_op op_mul (pv 1) (pe_ix ix_list (pv 2) (pv 5) (fun _ _ => rfl)))) (pg_sub (pv 4) (pv 5) set_list))))
      (pss_cons (ps_asg (pe_op op_add (pe_ix ix_list (pv 4) pe_int (fun _ _ => rfl)) (pe_ix ix_list (pv 0) (pe_op op_sub (pe_op op_sub (pe_callB call_len_seq (by rfl) T.z_len PySem.boot_len (pa_cons (pv 0) pa_nil)) pe_int) (pv 3)) (fun _ _ => rfl))) (pg_sub (pv 4) pe_int set_list))
      (pss_one (ps_set (i := 2) sc__law_moved.nd rfl (by first | exact Or.inl rfl | exact Or.inr rfl) (pv 4)))))))
      (pss_one (ps_ret (pv 2))))), ?_⟩
  obtain ⟨row, t⟩ := a
  obtain ⟨hl, ht⟩ := hd
  simp only at hl ht
  let W0 : WX := fun cls d _ H => E cls d H
  let rd : PV := dv K (.list (row.map .int))
  let td : PV := dv K (.int t)
  let n := row.length
  let sm : Nat → List Int := fun k => KM.mv t (row.drop (n - k))
  let f : Nat → Kn := fun k => [some rd, some td, some (lv K ((sm k).map .int)), none, none, none]
  have lenR : ∀ ps : Kn, ps[0]? = some (some rd) → JD K T.M W0 (tCB (rLenS K) (tCons (tVar 0) tNil)) ps (.int n) := fun ps h => je_is (je_lenL (je_var (i := 0) h)) (by rw [List.length_map])
  have ho : out__law_moved T (row, t) = .ok (lv K ((KM.mv t row).map .int)) := rfl
  rw [ho] at th
  refine fin_ok (r := .rt (lv K ((KM.mv t row).map .int))) (js_seq (js_set (i := 2) (P := lv K []) (je_lstV (ds := []) ja_nil))
    (js_seq (qs := f n) (js_for (M := T.M) (W := W0) (vs := [3]) f n (ji_uptoN (n := n) (lenR _ rfl) (by omega)) ?start (by rw [List.length_map, List.length_range]; exact Nat.le_refl _) (fun k d hk hd => ?body) (.inl ⟨by rw [List.length_map, List.length_range], rfl⟩)) (js_ret (je_var (i := 2) (by show some (some (lv K ((sm n).map .int))) = _; rw [show sm n = KM.mv t row by show KM.mv t (row.drop (n - n)) = _; rw [Nat.sub_self]; rfl])))))
    (by exact rfl) fh al th
  case start =>
    show [some rd, some td, some (lv K ((sm 0).map .int)), none, none, none] = _
    have : sm 0 = [] := by
      show KM.mv t (row.drop (n - 0)) = []
      rw [Nat.sub_zero, List.drop_length]
      rfl
    rw [this]
    rfl
  case body =>
    obtain ⟨hlt, rfl⟩ := rngI_at hd
    let s := sm k
    have sl : s.length = k := by
      show (KM.mv t (row.drop (n - k))).length = k
      rw [KM.mv_len, List.length_drop]
      show n - (n - k) = k
      omega
    let c : Int := row.getD (n - 1 - k) 0
    have sn : sm (k + 1) = KM.hz t c s := by
      show KM.mv t (row.drop (n - (k + 1))) = _
      have h1 : n - (k + 1) < row.length := by show n - (k + 1) < n; omega
      rw [List.drop_eq_getElem_cons h1, show n - (k + 1) + 1 = n - k by omega]
      show KM.hz t row[n - (k + 1)] (KM.mv t (row.drop (n - k))) = KM.hz t (row.getD (n - 1 - k) 0) (KM.mv t (row.drop (n - k)))
      rw [getD_at (by show n - 1 - k < n; omega)]
      congr 2 <;> omega
    let g : Addr → Kn := fun D => [some rd, some td, some (lv K (s.map .int)), some (dv K (.int (k : Int))), some (xv (.ref D)), none]
    refine ⟨_, jg_name, .inl (jl_scope (i := 4) (j := 2) (fun D => (g D).set 2 (some (xv (.ref D)))) (es := (sm (k + 1)).map .int) (jn_cat (M := T.M) (W := W0) (ds := [.int 0]) (es := s.map .int) (je_lstV (ds := [.int 0]) (ja_cons je_int ja_nil)) (je_var (i := 2) rfl) (by rw [List.length_map, sl]; simp; omega)) (fun D F1 H1 hD => ?_) (fun D => rfl) (fun D => ⟨.inr rfl, .inr rfl, .inr rfl, .inl rfl, .inl rfl, .inl rfl, trivial⟩))⟩
    have lenS : ∀ ps : Kn, ps[2]? = some (some (lv K (s.map .int))) → JD K T.M W0 (tCB (rLenS K) (tCons (tVar 2) tNil)) ps (.int k) := fun ps h => je_is (je_lenL (je_lvd (je_var (i := 2) h))) (by rw [List.length_map, sl])
    refine jl_seq (qs := g D) (es := (gW t s k).map .int) (jl_forN (n := k) (M := T.M) (W := W0) (vs := [5]) ((List.range k).map fun (j : Nat) => PyData.int (j : Int)) (fun _ => g D) (fun j => (gW t s j).map .int) (by rw [List.length_map, List.length_range]) (ji_uptoN (n := k) (lenS _ rfl) (by omega)) rfl (by rw [gW_zero]; rfl) fun j d hj => ?inner) (jl_seq (qs := g D) (es := (sm (k + 1)).map .int) (jl_is (jl_setI (i := 4) (j := 0) (v := (gW t s k).getD 0 0 + c) rfl hD (je_add (je_ixL (je_var (i := 4) rfl) (je_int (i := ((0 : Nat) : Int))) (at_getD (by rw [gW_len]; omega))) (je_ixL (je_var (i := 0) rfl) (je_is (je_sub (je_sub (lenR _ rfl) je_int) (je_var (i := 3) rfl)) (congrArg PyData.int (show (n : Int) - 1 - (k : Int) = ((n - 1 - k : Nat) : Int) by omega))) (at_getD (by show n - 1 - k < n; omega)))) (je_int (i := ((0 : Nat) : Int))) (by rw [List.length_map, gW_len]; omega)) ?fin) (jl_js (js_set (i := 2) (P := xv (.ref D)) (je_var (i := 4) rfl))))
    case inner =>
      obtain ⟨hjk, rfl⟩ := rngI_at hj
      refine ⟨_, jg_name, jl_weak (jl_is (jl_setI (i := 4) (j := j) (v := (gW t s j).getD j 0 + t * s.getD j 0) rfl hD (je_add (je_ixL (je_var (i := 4) rfl) (je_var (i := 5) rfl) (at_getD (by rw [gW_len]; omega))) (je_mul (je_var (i := 1) rfl) (je_ixL (je_lvd (je_var (i := 2) rfl)) (je_var (i := 5) rfl) (at_getD (by omega))) (near_mul (by omega)))) (je_var (i := 5) rfl) (by rw [List.length_map, gW_len]; omega)) ?_) ⟨.inr rfl, .inr rfl, .inr rfl, .inr rfl, .inr rfl, .inl rfl, trivial⟩⟩
      rw [← gW_set (by omega), List.map_set]
    case fin =>
      rw [sn, ← gW_hz, sl, List.map_set]
end K02

namespace K02
open PySem PySem.Spec PyProof.Rows L2 Evl EB PySem.W
section
variable {K : PySem.W.Frag} {M : EC → Addr} {W : WX} {D : Addr} {F1 H1 : Hp} {n : Nat} {ps qs : Kn} {ts tu tv : TS} {t : TT} {ds : List PyData} {o : Except Er (List PyData)}
theorem jq_ifT (h : JT K M W t ps true) (k : JQ K M W D F1 H1 n ts ps ds o) : JQ K M W D F1 H1 n (tSeq (tIfS t ts tv) tu) ps ds o := fun Dn σ F H A S kk => h σ F H _ A.gr.fh S fun F' H' g => by
  show (if true = true then _ else _)
  rw [if_pos rfl]
  exact k { Dn with nx := tu Dn } σ F' H' (A.step g) (S.mono g.ff) kk
theorem jq_ifF (h : JT K M W t ps false) (k : JQ K M W D F1 H1 n tu ps ds o) : JQ K M W D F1 H1 n (tSeq (tIfS t ts tNext) tu) ps ds o := fun Dn σ F H A S kk => h σ F H _ A.gr.fh S fun F' H' g => by
  show (if false = true then _ else _)
  rw [if_neg (by decide)]
  exact k Dn σ F' H' (A.step g) (S.mono g.ff) kk
end
theorem eqv_emp (l : List Int) : PyData.eqv (.list (l.map .int)) (.list []) = decide (l = []) := by
  cases l with
  | nil => simp [PyData.eqv, PyData.eqvAll]
  | cons x r => simp [PyData.eqv, PyData.eqvAll]
theorem ok_row (row : List Int) : Ok (.list (row.map .int)) 1 := ok_lst (n := 0) (ok_ints row)
def P60 : Int := 1000000000000000000000000000000000000000000000000000000000000
def P20 : Int := 100000000000000000000
theorem modN {x : Int} {n : Nat} (h : 0 < n) : x % (n : Int) = ((x % (n : Int)).toNat : Int) ∧ (x % (n : Int)).toNat < n := by
  have h1 := Int.emod_nonneg x (show (n : Int) ≠ 0 by omega)
  have h2 := Int.emod_lt_of_pos x (show (0 : Int) < n by omega)
  omega
/-! ### edged -/
def eV (c : Int) : Int := if 3 < c % 6 then M40 * (1 - 2 * (c % 2)) + (1 + c / 30000 % P60) * (1 - 2 * (c % 2)) else M40 * (1 - 2 * (c % 2))
def oneE (row : List Int) (c : Int) : Nat := (c / 6 % (row.length : Int)).toNat
def twoE (row : List Int) (c : Int) : Nat := (c / 6 / 66 % (row.length : Int)).toNat
def edR (row : List Int) (c : Int) : List Int := if row = [] then [] else if c % 6 < 2 then (row.set (oneE row c) (row.getD (twoE row c) 0)).set (twoE row c) (row.getD (oneE row c) 0) else (row.set (twoE row c) (0 - eV c)).set (oneE row c) (eV c)
def args__law_edged {K : PySem.W.Frag} {mg : Str → Option Value} (T : Tx K mg) : List Int × Int → List PV := fun a => [dv K (.list (a.1.map .int)), dv K (.int a.2)]
def dom__law_edged : List Int × Int → Prop := fun a => a.1.length ≤ 1000
def out__law_edged : List Int × Int → List PyData := fun a => (edR a.1 a.2).map .int
theorem ok__law_edged {P : Program} {w : World} {K : PySem.W.Frag} {mg : Str → Option Value} {base : Heap} (T : Tx K mg) : FnOk P w K mg base (L2.CX P w) 1 T.a__law_edged T.fd__law_edged ["row", "c"] (PrmN K (args__law_edged T) dom__law_edged out__law_edged) := by
  refine T.F__law_edged.okX sc__law_edged (fun vs H Q E h => by obtain ⟨a, F, _, al, _⟩ := h; exact al.length) (fun cdv A outer s H vs Q E hr h => ?_)
  have tk : Takes (cxOf (L2.CX P w) P w K mg base N__law_edged "_law_edged" (defScope s__law_edged) T.a__law_edged cdv A outer s H E) (fun cls d _ H => E cls d H) := takes_of rfl rfl rfl rfl
  obtain ⟨a, F, fh, al, hd, th⟩ := h
  refine ⟨_, (pss_cons (ps_if (pt_cmpR (op_eqD hr.units) (pv 0) (pe_lst pa_nil) (nomark _)) (pss_one (ps_ret (pe_lst pa_nil))) pss_nil)
      (pss_cons (ps_set (i := 2) sc__law_edged.nd rfl (by first | exact Or.inl rfl | exact Or.inr rfl) (pe_callTy call_list_of (by rfl) T.z_list PyProof.Rows.boot_list (pa_cons (pv 0) pa_nil)))
      (pss_cons (ps_set (i := 3) sc__law_edged.nd rfl (by first | exact Or.inl rfl | exact Or.inr rfl) (pe_op op_mod (pe_callTy call_int1 (by rfl) T.z_int PyProof.Rows.boot_int (pa_cons (pe_op op_fdiv (pv 1) pe_int) pa_nil)) (pe_callB call_len_seq (by rfl) T.z_len PySem.boot_len (pa_cons (pv 0) pa_nil))))
      (pss_cons (ps_set (i := 4) sc__law_edged.nd rfl (by first | exact Or.inl rfl | exact Or.inr rfl) (pe_op op_mod (pe_callTy call_int1 (by rfl) T.z_int PyProof.Rows.boot_int (pa_cons (pe_op op_fdiv (pe_op op_fdiv (pv 1) pe_int) pe_int) pa_nil)) (pe_callB call_len_seq (by rfl) T.z_len PySem.boot_len (pa_cons (pv 0) pa_nil))))
      (pss_cons (ps_set (i := 5) sc__law_edged.nd rfl (by first | exact Or.inl rfl | exact Or.inr rfl) (pe_op op_mul (pe_op op_pow pe_int pe_int) (pe_op op_sub pe_int (pe_op op_mul pe_int (pe_op op_mod (pe_callTy call_int1 (by rfl) T.z_int PyProof.Rows.boot_int (pa_cons (pv 1) pa_nil)) pe_int)))))
      (pss_cons (ps_if (pt_cmpR op_gt (pe_op op_mod (pe_callTy call_int1 (by rfl) T.z_int PyProof.Rows.boot_int (pa_cons (pv 1) pa_nil)) pe_int) pe_int (nomark _)) (pss_one (ps_set (i := 5) sc__law_edged.nd rfl (by first | exact Or.inl rfl | exact Or.inr rfl) (pe_op op_add (pv 5) (pe_op op_mul (pe_op op_add pe_int (pe_op op_mod (pe_callTy call_int1 (by rfl) T.z_int PyProof.Rows.boot_int (pa_cons (pe_op op_fdiv (pv 1) pe_int) pa_nil)) (pe_op op_pow pe_int pe_int))) (pe_op op_sub pe_int (pe_op op_mul pe_int (pe_op op_mod (pe_callTy call_int1 (by rfl) T.z_int PyProof.Rows.boot_int (pa_cons (pv 1) pa_nil)) pe_int))))))) pss_nil)
      (pss_cons (ps_if (pt_cmpR op_lt (pe_op op_mod (pe_callTy call_int1 (by rfl) T.z_int PyProof.Rows.boot_int (pa_cons (pv 1) pa_nil)) pe_int) pe_int (nomark _)) (pss_cons (ps_asg (pe_ix ix_list (pv 0) (pv 4) (fun _ _ => rfl)) (pg_sub (pv 2) (pv 3) set_list))
      (pss_one (ps_asg (pe_ix ix_list (pv 0) (pv 3) (fun _ _ => rfl)) (pg_sub (pv 2) (pv 4) set_list)))) (pss_cons (ps_asg (pe_op op_sub pe_int (pv 5)) (pg_sub (pv 2) (pv 4) set_list))
      (pss_one (ps_asg (pv 5) (pg_sub (pv 2) (pv 3) set_list)))))
      (pss_one (ps_ret (pv 2)))))))))), ?_⟩
  obtain ⟨row, c⟩ := a
  have hl : row.length ≤ 1000 := hd
  let W0 : WX := fun cls d _ H => E cls d H
  let e0 := entry N__law_edged (args__law_edged T (row, c))
  have t0 : JT K T.M W0 (tTest (tOp (rEqD K) (tVar 0) (tLst tNil))) e0 (decide (row = [])) := jt_is (jt_test (je_eqD (je_var (i := 0) rfl) (je_lst (ds := []) ja_nil) ((ok_row row).sh (by decide)) ((ok_row []).sh (by decide)))) (eqv_emp row)
  have ho : out__law_edged (row, c) = (edR row c).map .int := rfl
  rw [ho] at th
  unfold edR at th
  by_cases h0 : row = []
  · rw [if_pos h0] at th
    exact fin_neO (jsn_ifT (jt_is t0 (decide_eq_true h0)) (jsn_ret (jn_lst (M := T.M) (W := W0) (ds := []) ja_nil))) fh al th
  · rw [if_neg h0] at th
    have hn : 0 < row.length := List.length_pos_iff.mpr h0
    let rd : PV := dv K (.list (row.map .int))
    let cd : PV := dv K (.int c)
    let one := oneE row c
    let two := twoE row c
    have h1 := modN (x := c / 6) hn
    have h2 := modN (x := c / 6 / 66) hn
    have lenR : ∀ ps : Kn, ps[0]? = some (some rd) → JD K T.M W0 (tCB (rLenS K) (tCons (tVar 0) tNil)) ps (.int row.length) := fun ps h => je_is (je_lenL (je_var (i := 0) h)) (by rw [List.length_map])
    have p40 : ∀ ps : Kn, JD K T.M W0 (tOp (rI CPow fun i j => .int (i ^ j.toNat)) (tC (.int 10)) (tC (.int 40))) ps (.int M40) := fun ps => je_is (je_pow je_int je_int ⟨by decide, by decide, by decide⟩) (congrArg PyData.int (by decide))
    have p60 : ∀ ps : Kn, JD K T.M W0 (tOp (rI CPow fun i j => .int (i ^ j.toNat)) (tC (.int 10)) (tC (.int 60))) ps (.int P60) := fun ps => je_is (je_pow je_int je_int ⟨by decide, by decide, by decide⟩) (congrArg PyData.int (by decide))
    have sgn_ : ∀ ps : Kn, ps[1]? = some (some cd) → JD K T.M W0 (tOp (rI0 fun i j => .int (i - j)) (tC (.int 1)) (tOp (rI CMul fun i j => .int (i * j)) (tC (.int 2)) (tOp (rI (fun _ j => 0 < j) fun i j => .int (i % j)) (tCB rInt1 (tCons (tVar 1) tNil)) (tC (.int 2))))) ps (.int (1 - 2 * (c % 2))) := fun ps h => je_sub je_int (je_mul je_int (je_mod (je_intI (je_var (i := 1) h)) je_int (by decide)) (near_mul (by decide)))
    have m6 : ∀ ps : Kn, ps[1]? = some (some cd) → JD K T.M W0 (tOp (rI (fun _ j => 0 < j) fun i j => .int (i % j)) (tCB rInt1 (tCons (tVar 1) tNil)) (tC (.int 6))) ps (.int (c % 6)) := fun ps h => je_mod (je_intI (je_var (i := 1) h)) je_int (by decide)
    let q : Addr → Option PV → Kn := fun D v => [some rd, some cd, some (xv (.ref D)), some (dv K (.int (one : Int))), some (dv K (.int (two : Int))), v]
    let v0 : Int := M40 * (1 - 2 * (c % 2))
    refine fin_neO (jsn_ifF (jt_is t0 (decide_eq_false h0)) (jsn_own (i := 2) (jn_listL (M := T.M) (W := W0) (je_var (i := 0) rfl)) fun D F1 H1 hD =>
      jq_seq (jl_js (js_set (i := 3) (P := dv K (.int (one : Int))) (je_is (je_mod (je_intI (je_div (je_var (i := 1) rfl) je_int ⟨by decide, by decide⟩)) (lenR _ rfl) (by omega)) (congrArg PyData.int h1.1))))
      (jq_seq (qs := q D none) (jl_js (js_set (i := 4) (P := dv K (.int (two : Int))) (je_is (je_mod (je_intI (je_div (je_div (je_var (i := 1) rfl) je_int ⟨by decide, by decide⟩) je_int ⟨by decide, by decide⟩)) (lenR _ rfl) (by omega)) (congrArg PyData.int h2.1))))
      (jq_seq (qs := q D (some (dv K (.int v0)))) (jl_js (js_set (i := 5) (P := dv K (.int v0)) (je_mul (p40 _) (sgn_ _ rfl) (mul_r (by omega)))))
      (jq_seq (qs := q D (some (dv K (.int (eV c))))) (jl_js (js_if (b := decide (3 < c % 6)) (jt_test (je_gt (m6 _ rfl) je_int)) (fun z => ?g1) (fun z => ?g2)))
      (jq_seq (qs := q D (some (dv K (.int (eV c))))) (es := (edR row c).map .int) (jl_if (b := decide (c % 6 < 2)) (jt_test (je_lt (m6 _ rfl) je_int)) (fun z => ?g3) (fun z => ?g4))
      (jq_is (jq_ret (i := 2) rfl hD) ?g5))))))) fh al th
    case g1 =>
      have z2 : 3 < c % 6 := of_decide_eq_true z
      refine js_set (i := 5) (P := dv K (.int (eV c))) (je_is (je_add (je_var (i := 5) rfl) (je_mul (je_add je_int (je_mod (je_intI (je_div (je_var (i := 1) rfl) je_int ⟨by decide, by decide⟩)) (p60 _) (by decide))) (sgn_ _ rfl) (mul_r (by omega)))) ?_)
      unfold eV
      rw [if_pos z2]
    case g2 =>
      have z2 : ¬ 3 < c % 6 := of_decide_eq_false z
      have : eV c = v0 := by
        unfold eV
        rw [if_neg z2]
      rw [this]
      exact js_next
    case g3 =>
      have z2 : c % 6 < 2 := of_decide_eq_true z
      refine jl_seq (jl_set (i := 2) (j := one) (d := .int (row.getD two 0)) rfl hD (je_ixL (je_var (i := 0) rfl) (je_var (i := 4) rfl) (at_getD h2.2)) (je_var (i := 3) rfl) (by rw [List.length_map]; exact h1.2)) (jl_is (jl_set (i := 2) (j := two) (d := .int (row.getD one 0)) rfl hD (je_ixL (je_var (i := 0) rfl) (je_var (i := 3) rfl) (at_getD h1.2)) (je_var (i := 4) rfl) (by rw [List.length_set, List.length_map]; exact h2.2)) ?_)
      unfold edR
      rw [if_neg h0, if_pos z2, List.map_set, List.map_set]
    case g4 =>
      have z2 : ¬ c % 6 < 2 := of_decide_eq_false z
      refine jl_seq (jl_set (i := 2) (j := two) (d := .int (0 - eV c)) rfl hD (je_sub je_int (je_var (i := 5) rfl)) (je_var (i := 4) rfl) (by rw [List.length_map]; exact h2.2)) (jl_is (jl_set (i := 2) (j := one) (d := .int (eV c)) rfl hD (je_var (i := 5) rfl) (je_var (i := 3) rfl) (by rw [List.length_set, List.length_map]; exact h1.2)) ?_)
      unfold edR
      rw [if_neg h0, if_neg z2, List.map_set, List.map_set]
    case g5 =>
      unfold edR
      rw [if_neg h0]
/-! ### spoilt -/
def oneS (row : List Int) (c : Int) : Nat := (c / 3 % (row.length : Int)).toNat
def twoS (row : List Int) (c : Int) : Nat := (c / 3 / 68 % (row.length : Int)).toNat
def byS (c : Int) : Int := 1 + c / 3 / 68 / 68 % P20
def wS : List Int := [1, -2, 1]
def sp3 (row : List Int) (one : Nat) (b : Int) : Nat → List Int
  | 0 => row
  | j + 1 => (sp3 row one b j).set (one + j) ((sp3 row one b j).getD (one + j) 0 + b * wS.getD j 0)
theorem sp3_len (row : List Int) (one : Nat) (b : Int) : ∀ j, (sp3 row one b j).length = row.length
  | 0 => rfl
  | j + 1 => by
    show (List.set _ _ _).length = _
    rw [List.length_set, sp3_len row one b j]
def r1S (row : List Int) (c : Int) : List Int := row.set (oneS row c) (row.getD (oneS row c) 0 + byS c)
def spR (row : List Int) (c : Int) : List Int := if c % 3 = 2 then (if oneS row c + 2 < row.length then sp3 row (oneS row c) (byS c) 3 else row) else if c % 3 = 1 then (r1S row c).set (twoS row c) ((r1S row c).getD (twoS row c) 0 - byS c) else r1S row c
def args__law_spoilt {K : PySem.W.Frag} {mg : Str → Option Value} (T : Tx K mg) : List Int × Int → List PV := fun a => [dv K (.list (a.1.map .int)), dv K (.int a.2)]
def dom__law_spoilt : List Int × Int → Prop := fun a => 0 < a.1.length ∧ a.1.length ≤ 1000
def out__law_spoilt : List Int × Int → List PyData := fun a => (spR a.1 a.2).map .int
theorem w_sm : ∀ j : Nat, j < 3 → -(2 ^ 63) ≤ wS.getD j 0 ∧ wS.getD j 0 ≤ 2 ^ 63 := by decide
theorem ok__law_spoilt {P : Program} {w : World} {K : PySem.W.Frag} {mg : Str → Option Value} {base : Heap} (T : Tx K mg) : FnOk P w K mg base (L2.CX P w) 1 T.a__law_spoilt T.fd__law_spoilt ["row", "c"] (PrmN K (args__law_spoilt T) dom__law_spoilt out__law_spoilt) := by
  refine T.F__law_spoilt.okX sc__law_spoilt (fun vs H Q E h => by obtain ⟨a, F, _, al, _⟩ := h; exact al.length) (fun cdv A outer s H vs Q E hr h => ?_)
  have tk : Takes (cxOf (L2.CX P w) P w K mg base N__law_spoilt "_law_spoilt" (defScope s__law_spoilt) T.a__law_spoilt cdv A outer s H E) (fun cls d _ H => E cls d H) := takes_of rfl rfl rfl rfl
  obtain ⟨a, F, fh, al, hd, th⟩ := h
  refine ⟨_, (pss_cons (ps_set (i := 2) sc__law_spoilt.nd rfl (by first | exact Or.inl rfl | exact Or.inr rfl) (pe_callTy call_list_of (by rfl) T.z_list PyProof.Rows.boot_list (pa_cons (pv 0) pa_nil)))
      (pss_cons (ps_set (i := 3) sc__law_spoilt.nd rfl (by first | exact Or.inl rfl | exact Or.inr rfl) (pe_op op_mod (pe_callTy call_int1 (by rfl) T.z_int PyProof.Rows.boot_int (pa_cons (pe_op op_fdiv (pv 1) pe_int) pa_nil)) (pe_callB call_len_seq (by rfl) T.z_len PySem.boot_len (pa_cons (pv 0) pa_nil))))
      (pss_cons (ps_set (i := 4) sc__law_spoilt.nd rfl (by first | exact Or.inl rfl | exact Or.inr rfl) (pe_op op_mod (pe_callTy call_int1 (by rfl) T.z_int PyProof.Rows.boot_int (pa_cons (pe_op op_fdiv (pe_op op_fdiv (pv 1) pe_int) pe_int) pa_nil)) (pe_callB call_len_seq (by rfl) T.z_len PySem.boot_len (pa_cons (pv 0) pa_nil))))
      (pss_cons (ps_set (i := 5) sc__law_spoilt.nd rfl (by first | exact Or.inl rfl | exact Or.inr rfl) (pe_op op_add pe_int (pe_op op_mod (pe_callTy call_int1 (by rfl) T.z_int PyProof.Rows.boot_int (pa_cons (pe_op op_fdiv (pe_op op_fdiv (pe_op op_fdiv (pv 1) pe_int) pe_int) pe_int) pa_nil)) (pe_op op_pow pe_int pe_int))))
      (pss_cons (ps_if (pt_cmpR op_eq (pe_op op_mod (pe_callTy call_int1 (by rfl) T.z_int PyProof.Rows.boot_int (pa_cons (pv 1) pa_nil)) pe_int) pe_int (nomark _)) (pss_cons (ps_if (pt_cmpR op_lt (pe_op op_add (pv 3) pe_int) (pe_callB call_len_seq (by rfl) T.z_len PySem.boot_len (pa_cons (pv 0) pa_nil)) (nomark _)) (pss_one (ps_for (passes_of rfl) rfl (pi_range1 (by rfl) T.z_range (pa_cons pe_int pa_nil)) (pg_name (i := 6) sc__law_spoilt.nd rfl (by first | exact Or.inl rfl | exact Or.inr rfl)) (pss_cons (ps_set (i := 7) sc__law_spoilt.nd rfl (by first | exact Or.inl rfl | exact Or.inr rfl) (pe_op op_add (pe_ix ix_list (pv 2) (pe_op op_add (pv 3) (pv 6)) (fun _ _ => rfl)) (pe_op op_mul (pv 5) (pe_ix ix_tup (pe_tup (pa_cons pe_int (pa_cons (pe_un un_neg pe_int) (pa_cons pe_int pa_nil)))) (pv 6) (fun _ _ => rfl)))))
      (pss_one (ps_asg (pv 7) (pg_sub (pv 2) (pe_op op_add (pv 3) (pv 6)) set_list)))))) pss_nil)
      (pss_one (ps_ret (pv 2)))) pss_nil)
      (pss_cons (ps_asg (pe_op op_add (pe_ix ix_list (pv 2) (pv 3) (fun _ _ => rfl)) (pv 5)) (pg_sub (pv 2) (pv 3) set_list))
      (pss_cons (ps_if (pt_cmpR op_eq (pe_op op_mod (pe_callTy call_int1 (by rfl) T.z_int PyProof.Rows.boot_int (pa_cons (pv 1) pa_nil)) pe_int) pe_int (nomark _)) (pss_one (ps_asg (pe_op op_sub (pe_ix ix_list (pv 2) (pv 4) (fun _ _ => rfl)) (pv 5)) (pg_sub (pv 2) (pv 4) set_list))) pss_nil)
      (pss_one (ps_ret (pv 2)))))))))), ?_⟩
  obtain ⟨row, c⟩ := a
  obtain ⟨hn, hl⟩ := hd
  simp only at hn hl
  let W0 : WX := fun cls d _ H => E cls d H
  let rd : PV := dv K (.list (row.map .int))
  let cd : PV := dv K (.int c)
  let one := oneS row c
  let two := twoS row c
  let b := byS c
  have h1 := modN (x := c / 3) hn
  have h2 := modN (x := c / 3 / 68) hn
  have lenR : ∀ ps : Kn, ps[0]? = some (some rd) → JD K T.M W0 (tCB (rLenS K) (tCons (tVar 0) tNil)) ps (.int row.length) := fun ps h => je_is (je_lenL (je_var (i := 0) h)) (by rw [List.length_map])
  have p20 : ∀ ps : Kn, JD K T.M W0 (tOp (rI CPow fun i j => .int (i ^ j.toNat)) (tC (.int 10)) (tC (.int 20))) ps (.int P20) := fun ps => je_is (je_pow je_int je_int ⟨by decide, by decide, by decide⟩) (congrArg PyData.int (by decide))
  have m3 : ∀ ps : Kn, ps[1]? = some (some cd) → JD K T.M W0 (tOp (rI (fun _ j => 0 < j) fun i j => .int (i % j)) (tCB rInt1 (tCons (tVar 1) tNil)) (tC (.int 3))) ps (.int (c % 3)) := fun ps h => je_mod (je_intI (je_var (i := 1) h)) je_int (by decide)
  have d3 : ∀ ps : Kn, ps[1]? = some (some cd) → JD K T.M W0 (tOp (rI CDiv fun i j => .int (i / j)) (tVar 1) (tC (.int 3))) ps (.int (c / 3)) := fun ps h => je_div (je_var (i := 1) h) je_int ⟨by decide, by decide⟩
  let q : Addr → Kn := fun D => [some rd, some cd, some (xv (.ref D)), some (dv K (.int (one : Int))), some (dv K (.int (two : Int))), some (dv K (.int b)), none, none]
  have ho : out__law_spoilt (row, c) = (spR row c).map .int := rfl
  rw [ho] at th
  refine fin_neO (Ps := args__law_spoilt T (row, c)) (jsn_own (i := 2) (jn_listL (M := T.M) (W := W0) (je_var (i := 0) rfl)) fun D F1 H1 hD =>
    jq_seq (qs := [some rd, some cd, some (xv (.ref D)), some (dv K (.int (one : Int))), none, none, none, none]) (jl_js (js_set (i := 3) (P := dv K (.int (one : Int))) (je_is (je_mod (je_intI (d3 _ rfl)) (lenR _ rfl) (by omega)) (congrArg PyData.int h1.1))))
    (jq_seq (qs := [some rd, some cd, some (xv (.ref D)), some (dv K (.int (one : Int))), some (dv K (.int (two : Int))), none, none, none]) (jl_js (js_set (i := 4) (P := dv K (.int (two : Int))) (je_is (je_mod (je_intI (je_div (d3 _ rfl) je_int ⟨by decide, by decide⟩)) (lenR _ rfl) (by omega)) (congrArg PyData.int h2.1))))
    (jq_seq (qs := q D) (jl_js (js_set (i := 5) (P := dv K (.int b)) (je_add je_int (je_mod (je_intI (je_div (je_div (d3 _ rfl) je_int ⟨by decide, by decide⟩) je_int ⟨by decide, by decide⟩)) (p20 _) (by decide)))))
    ?rest))) fh al th
  unfold spR
  by_cases c2 : c % 3 = 2
  · rw [if_pos c2]
    refine jq_ifT (jt_is (jt_test (je_eqI (m3 _ rfl) je_int)) (decide_eq_true c2)) ?_
    by_cases hs : oneS row c + 2 < row.length
    · rw [if_pos hs]
      refine jq_seq (qs := q D) (es := (sp3 row one b 3).map .int) (jl_if (b := true) (jt_is (jt_test (je_lt (je_add (je_var (i := 3) rfl) je_int) (lenR _ rfl))) (decide_eq_true (by show (one : Int) + 2 < row.length; show ((oneS row c : Nat) : Int) + 2 < _; omega))) (fun _ => ?_) (fun z => Bool.noConfusion z)) (jq_ret (i := 2) rfl hD)
      refine jl_forN (n := 3) (M := T.M) (W := W0) (vs := [6]) ((List.range 3).map fun (j : Nat) => PyData.int (j : Int)) (fun _ => q D) (fun j => (sp3 row one b j).map .int) rfl (ji_uptoN (n := 3) je_int (by decide)) rfl rfl fun j d hj => ?_
      obtain ⟨hj3, rfl⟩ := rngI_at hj
      let v : Int := (sp3 row one b j).getD (one + j) 0 + b * wS.getD j 0
      let q6 : Kn := [some rd, some cd, some (xv (.ref D)), some (dv K (.int (one : Int))), some (dv K (.int (two : Int))), some (dv K (.int b)), some (dv K (.int (j : Int))), none]
      let q7 : Kn := [some rd, some cd, some (xv (.ref D)), some (dv K (.int (one : Int))), some (dv K (.int (two : Int))), some (dv K (.int b)), some (dv K (.int (j : Int))), some (dv K (.int v))]
      have lt : one + j < row.length := by show oneS row c + j < _; omega
      refine ⟨q6, jg_name, jl_seq (qs := q7) (jl_asgI (i := 2) (j := 7) (v := v) rfl (je_add (je_ixL (je_var (i := 2) rfl) (je_is (je_add (je_var (i := 3) rfl) (je_var (i := 6) rfl)) (congrArg PyData.int (show (one : Int) + (j : Int) = ((one + j : Nat) : Int) by omega))) (at_getD (by rw [sp3_len]; exact lt))) (je_mul (je_var (i := 5) rfl) (je_ixT (ds := wS.map .int) (je_tup (ds := wS.map .int) (ja_cons je_int (ja_cons (je_neg je_int) (ja_cons je_int ja_nil)))) (je_var (i := 6) rfl) (at_getD (show j < 3 by omega))) (mul_r (w_sm j hj3)))))
        (jl_weak (jl_is (jl_set (i := 2) (j := one + j) (d := .int v) rfl hD (je_var (i := 7) rfl) (je_is (je_add (je_var (i := 3) rfl) (je_var (i := 6) rfl)) (congrArg PyData.int (show (one : Int) + (j : Int) = ((one + j : Nat) : Int) by omega))) (by rw [List.length_map, sp3_len]; exact lt)) ?_) ⟨.inr rfl, .inr rfl, .inr rfl, .inr rfl, .inr rfl, .inr rfl, .inl rfl, .inl rfl, trivial⟩)⟩
      show _ = (List.set _ _ _).map PyData.int
      rw [List.map_set]
    · rw [if_neg hs]
      exact jq_seq (qs := q D) (es := row.map .int) (jl_if (b := false) (jt_is (jt_test (je_lt (je_add (je_var (i := 3) rfl) je_int) (lenR _ rfl))) (decide_eq_false (by show ¬ ((oneS row c : Nat) : Int) + 2 < row.length; omega))) (fun z => Bool.noConfusion z) (fun _ => jl_js (M := T.M) (W := W0) js_next)) (jq_ret (i := 2) rfl hD)
  · rw [if_neg c2]
    refine jq_ifF (jt_is (jt_test (je_eqI (m3 _ rfl) je_int)) (decide_eq_false c2)) ?_
    refine jq_seq (qs := q D) (es := (r1S row c).map .int) (jl_is (jl_setI (i := 2) (j := one) (v := row.getD one 0 + b) rfl hD (je_add (je_ixL (je_var (i := 2) rfl) (je_var (i := 3) rfl) (at_getD h1.2)) (je_var (i := 5) rfl)) (je_var (i := 3) rfl) (by rw [List.length_map]; exact h1.2)) ?_) ?_
    · show _ = (List.set _ _ _).map PyData.int
      rw [List.map_set]
    by_cases c1 : c % 3 = 1
    · rw [if_pos c1]
      have rl : (r1S row c).length = row.length := by
        unfold r1S
        rw [List.length_set]
      refine jq_seq (qs := q D) (es := ((r1S row c).set two ((r1S row c).getD two 0 - b)).map .int) (jl_if (b := true) (jt_is (jt_test (je_eqI (m3 _ rfl) je_int)) (decide_eq_true c1)) (fun _ => jl_is (jl_setI (i := 2) (j := two) (v := (r1S row c).getD two 0 - b) rfl hD (je_sub (je_ixL (je_var (i := 2) rfl) (je_var (i := 4) rfl) (at_getD (by rw [rl]; exact h2.2))) (je_var (i := 5) rfl)) (je_var (i := 4) rfl) (by rw [List.length_map, rl]; exact h2.2)) (by rw [List.map_set])) (fun z => Bool.noConfusion z)) (jq_ret (i := 2) rfl hD)
    · rw [if_neg c1]
      exact jq_seq (qs := q D) (es := (r1S row c).map .int) (jl_if (b := false) (jt_is (jt_test (je_eqI (m3 _ rfl) je_int)) (decide_eq_false c1)) (fun z => Bool.noConfusion z) (fun _ => jl_js (M := T.M) (W := W0) js_next)) (jq_ret (i := 2) rfl hD)
end K02

namespace K02
open PySem PySem.Spec PyProof.Rows L2 Evl EB PySem.W
/-! ### binomials -/
theorem pas : ∀ n : Nat, n < 66 → ∀ k : Nat, k < 66 → mcComb ((n + 1 : Nat) : Int) ((k + 1 : Nat) : Int) = mcComb (n : Int) (k : Int) + mcComb (n : Int) ((k + 1 : Nat) : Int) := by decide +kernel
theorem pas0 : ∀ n : Nat, n < 67 → mcComb (n : Int) ((0 : Nat) : Int) = 1 := by decide +kernel
theorem comb_ch : ∀ n : Nat, n < 67 → ∀ k : Nat, k < 67 → mcComb (n : Int) (k : Int) = KM.ch n k
  | 0, _, 0, _ => pas0 0 (by decide)
  | 0, _, k + 1, _ => mcComb_above (by omega)
  | n + 1, h, 0, _ => pas0 (n + 1) h
  | n + 1, h, k + 1, hk => by rw [pas n (by omega) k (by omega), comb_ch n (by omega) k (by omega), comb_ch n (by omega) (k + 1) hk]; rfl
/-! ### what is told, as plain rows -/
theorem spI_eq {row : List Int} (h : row.length ≤ 64) {s : Nat} (hs : s < row.length) : spI row s = (KM.mv 1 row).getD s 0 := by
  rw [KM.mv_get]
  unfold spI
  show KM.Z _ _ = _
  refine KM.Z_congr fun m hm => ?_
  rw [KM.kt_one, comb_ch m (by omega) s (by omega)]
theorem spL_eq {row : List Int} (h : row.length ≤ 64) : spL row = (KM.mv 1 row).map .int := by
  unfold spL
  exact lst_get (α := Unit) (f := spI row) (KM.mv_len 1 row) fun i hi => (spI_eq h hi).symm
theorem gaE_eq {m i : Nat} (h : m + i < 67) (e : Int) : gaE ((m + i : Nat) : Int) (m : Int) e = e * KM.kt (-1) (m + i) m := by
  rw [KM.kt_neg]
  unfold gaE
  rw [comb_ch (m + i) h m (by omega)]
  unfold KM.sg
  by_cases z : i % 2 = 1
  · rw [if_pos (by omega), if_pos (by omega), Int.neg_mul, Int.neg_mul, Int.one_mul, Int.mul_neg, Int.mul_comm]
  · rw [if_neg (by omega), if_neg (by omega), Int.one_mul, Int.mul_comm]
theorem gaI_eq {row : List Int} (h : row.length ≤ 64) {m : Nat} (hm : m < row.length) : gaI row m = (KM.mv (-1) row).getD m 0 := by
  rw [KM.mv_get]
  have e : row.length = m + (row.length - m) := by omega
  have z : KM.Z m (fun j => row.getD j 0 * KM.kt (-1) j m) = 0 := by
    rw [KM.Z_congr (g := fun _ => 0) fun j hj => by rw [KM.kt_neg, KM.ch_above j m hj, Int.mul_zero, Int.mul_zero], KM.Z_nil]
  have sp := KM.Z_split m (row.length - m) (fun j => row.getD j 0 * KM.kt (-1) j m)
  rw [← e, z, Int.zero_add] at sp
  rw [sp]
  unfold gaI
  show KM.Z _ _ = _
  refine KM.Z_congr fun i hi => ?_
  exact gaE_eq (by omega) _
theorem gaL_eq {row : List Int} (h : row.length ≤ 64) : gaL row = (KM.mv (-1) row).map .int := by
  unfold gaL
  exact lst_get (α := Unit) (f := gaI row) (KM.mv_len (-1) row) fun i hi => (gaI_eq h hi).symm
theorem pad_get (row : List Int) (k : Nat) : (padR row).getD (k + 2) 0 = row.getD k 0 := by
  unfold padR
  show (0 :: 0 :: (row ++ [0, 0])).getD (k + 2) 0 = _
  rw [KM.getD_cons_succ, KM.getD_cons_succ]
  by_cases h : k < row.length
  · rw [getD_at (by simp; omega), getD_at h, List.getElem_append_left h]
  · have z : ∀ j : Nat, ([0, 0] : List Int)[j]?.getD 0 = 0 := fun j => match j with
      | 0 => rfl
      | 1 => rfl
      | _ + 2 => rfl
    rw [List.getD_eq_getElem?_getD, List.getD_eq_getElem?_getD, List.getElem?_append_right (by omega), z, List.getElem?_eq_none (by omega)]
    rfl
theorem pad_low (row : List Int) : (padR row).getD 0 0 = 0 ∧ (padR row).getD 1 0 = 0 := ⟨rfl, rfl⟩
theorem beL_eq (row : List Int) : beL row = (KM.difs 0 (KM.difs 0 row)).map .int := by
  unfold beL
  have l1 := KM.difs_len row 0
  refine lst_get (α := Unit) (f := bI row) (by rw [KM.difs_len, l1]) fun i hi => ?_
  rw [KM.difs_get _ _ _ (by omega)]
  unfold bI
  rw [pad_get]
  have d0 : ∀ k, k ≤ row.length + 1 → (KM.difs 0 row).getD k 0 = row.getD k 0 - (0 :: row).getD k 0 := fun k hk => by
    by_cases h : k ≤ row.length
    · exact KM.difs_get row 0 k h
    · have : k = row.length + 1 := by omega
      subst this
      simp [l1]
  have d1 : (0 :: KM.difs 0 row).getD i 0 = (0 :: row).getD i 0 - (0 :: 0 :: row).getD i 0 := by
    cases i with
    | zero => simp
    | succ i => rw [KM.getD_cons_succ, d0 i (by omega), KM.getD_cons_succ, KM.getD_cons_succ]
  rw [d0 i (by omega), d1]
  have p1 : (padR row).getD (i + 1) 0 = (0 :: row).getD i 0 := by
    cases i with
    | zero => exact (pad_low row).2
    | succ i => rw [pad_get, KM.getD_cons_succ]
  have p0 : (padR row).getD i 0 = (0 :: 0 :: row).getD i 0 := by
    match i with
    | 0 => exact (pad_low row).1
    | 1 => exact (pad_low row).2
    | i + 2 => rw [pad_get, KM.getD_cons_succ, KM.getD_cons_succ]
  rw [p1, p0]
  omega
def ttR (row : List Int) : List Int := KM.tots 0 (KM.tots 0 row)
theorem tt_len (row : List Int) : (ttR row).length = row.length := by
  unfold ttR
  rw [KM.tots_len, KM.tots_len]
theorem ub_tt (row : List Int) : KM.unb 0 0 row = ttR row := by
  rw [KM.unb_tots]
  rfl
theorem lastZ_eq {row : List Int} (h : 2 ≤ row.length) : lastZ row = (decide (row.sum = 0) && decide (KM.wt 0 row = 0)) := by
  have k := KM.last_two h
  have e1 : (fdR row).getD row.length 0 = (ttR row).getD (row.length - 2) 0 := by
    unfold fdR
    rw [ub_tt]
    show (0 :: 0 :: ttR row).getD row.length 0 = _
    rw [show row.length = row.length - 2 + 1 + 1 by omega, KM.getD_cons_succ, KM.getD_cons_succ]
    congr 1
  have e2 : (fdR row).getD (row.length + 1) 0 = (ttR row).getD (row.length - 1) 0 := by
    unfold fdR
    rw [ub_tt]
    show (0 :: 0 :: ttR row).getD (row.length + 1) 0 = _
    rw [KM.getD_cons_succ, show row.length = row.length - 1 + 1 by omega, KM.getD_cons_succ]
    congr 1
  unfold lastZ
  rw [e1, e2, Bool.eq_iff_iff, Bool.and_eq_true, Bool.and_eq_true, decide_eq_true_eq, decide_eq_true_eq, decide_eq_true_eq, decide_eq_true_eq]
  exact k
inductive Nm | spread | gather | bends | unbend
def nmS : Nm → Str
  | .spread => "spread"
  | .gather => "gather"
  | .bends => "bends"
  | .unbend => "unbend"
def lstN : Nm → Int
  | .unbend => 2
  | _ => 0
def zz (row : List Int) : Bool := decide (row.sum = 0) && decide (KM.wt 0 row = 0)
def wrB : Er := ⟨.WrongRow, .str "bends"⟩
def okR (row : List Int) : Nm → Except Er (List Int)
  | .spread => .ok (KM.mv 1 row)
  | .gather => .ok (KM.mv (-1) row)
  | .bends => .ok (KM.difs 0 (KM.difs 0 row))
  | .unbend => match zz row with
    | true => .ok ((ttR row).take (row.length - 2))
    | false => .error wrB
def dueE (nm : Nm) (row : List Int) : Except Er (List Int) := match rowE (lstN nm) row with
  | some e => .error e
  | none => okR row nm
def dueD : Except Er (List Int) → PyData
  | .error e => raisedD e
  | .ok r => .tuple [.str "list", .str "", .tuple (r.map .int), .bool true]
def progE : Nm → Qr → Except Er (List PyData)
  | .spread => out_spread
  | .gather => out_gather
  | .bends => out_bends
  | .unbend => out_unbend
def asD : Except Er (List Int) → Except Er (List PyData)
  | .error e => .error e
  | .ok r => .ok (r.map .int)
theorem prog_due (nm : Nm) (b : Bool) (row : List Int) : progE nm (b, row) = asD (dueE nm row) := by
  unfold dueE
  cases nm with
  | spread =>
    show orF (rowE 0 row) (spL row) = asD (match rowE 0 row with | some e => .error e | none => .ok (KM.mv 1 row))
    cases h : rowE 0 row with
    | some e => rfl
    | none => exact congrArg Except.ok (spL_eq (rowE_len h).1)
  | gather =>
    show orF (rowE 0 row) (gaL row) = asD (match rowE 0 row with | some e => .error e | none => .ok (KM.mv (-1) row))
    cases h : rowE 0 row with
    | some e => rfl
    | none => exact congrArg Except.ok (gaL_eq (rowE_len h).1)
  | bends =>
    show orF (rowE 0 row) (beL row) = asD (match rowE 0 row with | some e => .error e | none => .ok (KM.difs 0 (KM.difs 0 row)))
    cases h : rowE 0 row with
    | some e => rfl
    | none => exact congrArg Except.ok (beL_eq row)
  | unbend =>
    show ubE row = asD (match rowE 2 row with | some e => .error e | none => okR row .unbend)
    unfold ubE
    cases h : rowE 2 row with
    | some e => rfl
    | none =>
      have h2 := (rowE_len h).2
      have hz : lastZ row = zz row := lastZ_eq (by omega)
      dsimp only
      rw [hz]
      unfold okR
      dsimp only
      cases zz row with
      | false => rfl
      | true =>
        unfold ubR
        rw [ub_tt]
        rfl
end K02

namespace K02
open PySem PySem.Spec PyProof.Rows L2 Evl EB PySem.W
/-! ### due -/
def args__law_due {K : PySem.W.Frag} {mg : Str → Option Value} (T : Tx K mg) : Nm × List Int → List PV := fun a => [dv K (.str (nmS a.1)), lv K (a.2.map .int)]
def dom__law_due : Nm × List Int → Prop := fun a => a.2.length ≤ 1000
def out__law_due {K : PySem.W.Frag} {mg : Str → Option Value} (T : Tx K mg) : Nm × List Int → Out := fun a => .ok (dv K (dueD (dueE a.1 a.2)))
def tell (K : PySem.W.Frag) (e : Er) : Out := .ok (dv K (raisedD e))
abbrev isStr (s : Str) : TT := tTest (tOp rEq (tVar 0) (tC (.str s)))
theorem isS {K : PySem.W.Frag} {M : EC → Addr} {W : WX} {ps : Kn} {s1 s2 : Str} {b : Bool} (h : ps[0]? = some (some (dv K (.str s1)))) (e : decide (s1 = s2) = b := by decide) : JT K M W (isStr s2) ps b := jt_is (jt_test (je_eqS (je_var (i := 0) h) je_str)) e
theorem cut_n2 (L : List Int) : cutD (L.map PyData.int) none (some (-2)) = (L.take (L.length - 2)).map .int := by
  unfold EB.cutD
  rw [HT.sIx_none, List.length_map, show HT.sIx L.length L.length (some (-2)) = L.length - 2 by unfold HT.sIx; simp only; rw [if_pos (by decide)]; omega]
  rw [List.drop_zero, Nat.sub_zero, List.map_take]
theorem wt_sum (row : List Int) : ((List.range row.length).map fun (k : Nat) => (k : Int) * row.getD k 0).sum = KM.wt 0 row := by
  rw [KM.wt_Z]
  show KM.Z _ _ = _
  refine KM.Z_congr fun i _ => ?_
  rw [Nat.zero_add]
theorem far_not (x : Int) : (decide (M40 < (if x < 0 then -x else x))) = !inR (-M40) x M40 := by
  unfold inR M40
  by_cases h0 : x < 0
  · rw [if_pos h0]
    by_cases h : 10000000000000000000000000000000000000000 < -x
    · rw [decide_eq_true h, decide_eq_false (by omega)]
      rfl
    · rw [decide_eq_false h, decide_eq_true (by omega), decide_eq_true (by omega)]
      rfl
  · rw [if_neg h0]
    by_cases h : 10000000000000000000000000000000000000000 < x
    · rw [decide_eq_true h, decide_eq_true (by omega), decide_eq_false (by omega)]
      rfl
    · rw [decide_eq_false h, decide_eq_true (by omega), decide_eq_true (by omega)]
      rfl
theorem cnt_not (l : Int) (n : Nat) : (decide ((n : Int) < l) || decide (64 < (n : Int))) = !inR l n 64 := by
  unfold inR
  by_cases h1 : (n : Int) < l
  · rw [decide_eq_true h1, decide_eq_false (show ¬ l ≤ (n : Int) by omega)]
    rfl
  · rw [decide_eq_false h1, decide_eq_true (show l ≤ (n : Int) by omega)]
    by_cases h3 : 64 < (n : Int)
    · rw [decide_eq_true h3, decide_eq_false (by omega)]
      rfl
    · rw [decide_eq_false h3, decide_eq_true (by omega)]
      rfl
theorem ok__law_due {P : Program} {w : World} {K : PySem.W.Frag} {mg : Str → Option Value} {base : Heap} (T : Tx K mg) : FnOk P w K mg base (L2.CX P w) 2 T.a__law_due T.fd__law_due ["name", "row"] (Prm K T.M (args__law_due T) dom__law_due (out__law_due T)) := by
  refine T.F__law_due.okX sc__law_due (fun vs H Q E h => by obtain ⟨a, F, _, al, _⟩ := h; exact al.length) (fun cdv A outer s H vs Q E hr h => ?_)
  have tk : Takes (cxOf (L2.CX P w) P w K mg base N__law_due "_law_due" (defScope s__law_due) T.a__law_due cdv A outer s H E) (fun cls d _ H => E cls d H) := takes_of rfl rfl rfl rfl
  obtain ⟨a, F, fh, al, hd, th⟩ := h
  refine ⟨_, (pss_cons (ps_set (i := 2) sc__law_due.nd rfl (by first | exact Or.inl rfl | exact Or.inr rfl) pe_int)
      (pss_cons (ps_if (pt_cmpR op_eq (pv 0) pe_str (nomark _)) (pss_one (ps_set (i := 2) sc__law_due.nd rfl (by first | exact Or.inl rfl | exact Or.inr rfl) pe_int)) pss_nil)
      (pss_cons (ps_if (PW.pt (pw_or (pt_cmpR op_lt (pe_callB call_len_seq (by rfl) T.z_len PySem.boot_len (pa_cons (pv 1) pa_nil)) (pv 2) (nomark _)) (pw_or1 (pt_cmpR op_gt (pe_callB call_len_seq (by rfl) T.z_len PySem.boot_len (pa_cons (pv 1) pa_nil)) pe_int (nomark _))))) (pss_one (ps_ret (pe_tup (pa_cons pe_str (pa_cons pe_str (pa_cons (pe_callB call_len_seq (by rfl) T.z_len PySem.boot_len (pa_cons (pv 1) pa_nil)) (pa_cons pe_bl pa_nil))))))) pss_nil)
      (pss_cons (ps_for (passes_of rfl) rfl (pi_list (pv 1)) (pg_name (i := 3) sc__law_due.nd rfl (by first | exact Or.inl rfl | exact Or.inr rfl)) (pss_one (ps_if (pt_cmpR op_gt (pe_callB call_abs (by rfl) T.z_abs (by decide +kernel) (pa_cons (pv 3) pa_nil)) (pe_op op_pow pe_int pe_int) (nomark _)) (pss_one (ps_ret (pe_tup (pa_cons pe_str (pa_cons pe_str (pa_cons (pv 3) (pa_cons pe_bl pa_nil))))))) pss_nil)))
      (pss_cons (ps_if (pt_cmpR op_eq (pv 0) pe_str (nomark _)) (pss_one (ps_ret (pe_tup (pa_cons pe_str (pa_cons pe_str (pa_cons (pe_callTy call_tuple_of (by rfl) T.z_tuple PyProof.Rows.boot_tuple (pa_cons (pe_callS (ok__law_moved T) (hr.mono (by decide)) (by rfl) T.g__law_moved T.F__law_moved.kp (b__law_moved T) (fun σ => passAt tk σ) (pa_cons (pv 1) (pa_cons pe_int pa_nil))) pa_nil)) (pa_cons pe_bl pa_nil))))))) pss_nil)
      (pss_cons (ps_if (pt_cmpR op_eq (pv 0) pe_str (nomark _)) (pss_one (ps_ret (pe_tup (pa_cons pe_str (pa_cons pe_str (pa_cons (pe_callTy call_tuple_of (by rfl) T.z_tuple PyProof.Rows.boot_tuple (pa_cons (pe_callS (ok__law_moved T) (hr.mono (by decide)) (by rfl) T.g__law_moved T.F__law_moved.kp (b__law_moved T) (fun σ => passAt tk σ) (pa_cons (pv 1) (pa_cons (pe_un un_neg pe_int) pa_nil))) pa_nil)) (pa_cons pe_bl pa_nil))))))) pss_nil)
      (pss_cons (ps_if (pt_cmpR op_eq (pv 0) pe_str (nomark _)) (pss_one (ps_ret (pe_tup (pa_cons pe_str (pa_cons pe_str (pa_cons (pe_callTy call_tuple_of (by rfl) T.z_tuple PyProof.Rows.boot_tuple (pa_cons (pe_callS (ok__law_differences T) (hr.mono (by decide)) (by rfl) T.g__law_differences T.F__law_differences.kp (b__law_differences T) (fun σ => passAt tk σ) (pa_cons (pe_callS (ok__law_differences T) (hr.mono (by decide)) (by rfl) T.g__law_differences T.F__law_differences.kp (b__law_differences T) (fun σ => passAt tk σ) (pa_cons (pv 1) pa_nil)) pa_nil)) pa_nil)) (pa_cons pe_bl pa_nil))))))) pss_nil)
      (pss_cons (ps_set (i := 4) sc__law_due.nd rfl (by first | exact Or.inl rfl | exact Or.inr rfl) (pe_callB (cr_sum rfl) (by rfl) T.z_sum (by decide +kernel) (pa_cons (pe_lc (own := [("k", 5)]) (g := (gName 5)) (tt := tYes) (te := (tOp (rI CMul fun i j => .int (i * j)) (tVar 5) (tOp (rIxL K) (tVar 1) (tVar 5)))) rfl sc__law_due.nd (pi_range1 (by rfl) T.z_range (pa_cons (pe_callB call_len_seq (by rfl) T.z_len PySem.boot_len (pa_cons (pv 1) pa_nil)) pa_nil)) (blkOk_by (N := N__law_due) (sc := defScope s__law_due) (own := [("k", 5)]) (by decide +kernel)) (fun _ _ _ _ _ => (pg_name (i := 5) sc__law_due.nd rfl (by first | exact Or.inl rfl | exact Or.inr rfl))) (fun _ _ _ _ _ => by exact pts_nil) (fun _ _ _ _ _ => by exact (pe_op op_mul (pv 5) (pe_ix ix_list (pv 1) (pv 5) (fun _ _ => rfl))))) pa_nil)))
      (pss_cons (ps_if (PW.pt (pw_or (pt_cmpR op_ne (pe_callB (cr_sum rfl) (by rfl) T.z_sum (by decide +kernel) (pa_cons (pv 1) pa_nil)) pe_int (nomark _)) (pw_or1 (pt_cmpR op_ne (pv 4) pe_int (nomark _))))) (pss_one (ps_ret (pe_tup (pa_cons pe_str (pa_cons pe_str (pa_cons pe_str (pa_cons pe_bl pa_nil))))))) pss_nil)
      (pss_one (ps_ret (pe_tup (pa_cons pe_str (pa_cons pe_str (pa_cons (pe_callTy call_tuple_of (by rfl) T.z_tuple PyProof.Rows.boot_tuple (pa_cons (pe_slice sl_list (pe_callS (ok__law_totals T) (hr.mono (by decide)) (by rfl) T.g__law_totals T.F__law_totals.kp (b__law_totals T) (fun σ => passAt tk σ) (pa_cons (pe_callS (ok__law_totals T) (hr.mono (by decide)) (by rfl) T.g__law_totals T.F__law_totals.kp (b__law_totals T) (fun σ => passAt tk σ) (pa_cons (pv 1) pa_nil)) pa_nil)) po_none (po_some (pe_un un_neg pe_int))) pa_nil)) (pa_cons pe_bl pa_nil)))))))))))))))), ?_⟩
  obtain ⟨nm, row⟩ := a
  have hl : row.length ≤ 1000 := hd
  let W0 : WX := fun cls d _ H => E cls d H
  let nd : PV := dv K (.str (nmS nm))
  let rd : PV := lv K (row.map .int)
  let q : Kn := [some nd, some rd, some (dv K (.int (lstN nm))), none, none, none]
  have ho : out__law_due T (nm, row) = .ok (dv K (dueD (dueE nm row))) := rfl
  rw [ho] at th
  have lenR : ∀ ps : Kn, ps[1]? = some (some rd) → JD K T.M W0 (tCB (rLenS K) (tCons (tVar 1) tNil)) ps (.int row.length) := fun ps h => je_is (je_lenL (je_lvd (je_var (i := 1) h))) (by rw [List.length_map])
  have p40 : ∀ ps : Kn, JD K T.M W0 (tOp (rI CPow fun i j => .int (i ^ j.toNat)) (tC (.int 10)) (tC (.int 40))) ps (.int M40) := fun ps => je_is (je_pow je_int je_int ⟨by decide, by decide, by decide⟩) (congrArg PyData.int (by decide))
  have st1 : JS K T.M W0 (tSeq (tAsg (tC (.int 0)) (gName 2)) (tIfS (isStr "unbend") (tAsg (tC (.int 2)) (gName 2)) tNext)) (entry N__law_due (args__law_due T (nm, row))) (.nx q) := by
    refine js_seq (js_set (i := 2) (P := dv K (.int 0)) je_int) ?_
    cases nm with
    | unbend => exact js_if (b := true) (isS (s1 := "unbend") rfl) (fun _ => js_set (i := 2) (P := dv K (.int 2)) je_int) (fun z => Bool.noConfusion z)
    | spread => exact js_if (b := false) (isS (s1 := "spread") rfl) (fun z => Bool.noConfusion z) (fun _ => js_next)
    | gather => exact js_if (b := false) (isS (s1 := "gather") rfl) (fun z => Bool.noConfusion z) (fun _ => js_next)
    | bends => exact js_if (b := false) (isS (s1 := "bends") rfl) (fun z => Bool.noConfusion z) (fun _ => js_next)
  have pre : ∀ {tu : TS} {d : PyData}, JS K T.M W0 tu q (.rt (dv K d)) → JS K T.M W0 (tSeq (tAsg (tC (.int 0)) (gName 2)) (tSeq (tIfS (isStr "unbend") (tAsg (tC (.int 2)) (gName 2)) tNext) tu)) (entry N__law_due (args__law_due T (nm, row))) (.rt (dv K d)) := fun {tu d} k => fun Dn σ F H fh S kk => st1 { Dn with nx := tu Dn } σ F H fh S fun σ' F' H' g s => k Dn σ' F' H' g.fh s (Wsh.step (r := .rt (dv K d)) g kk)
  have t2 : JT K T.M W0 (tOr (tTest (tOp (rI0 fun i j => .bl (decide (i < j))) (tCB (rLenS K) (tCons (tVar 1) tNil)) (tVar 2))) (tTest (tOp (rI0 fun i j => .bl (decide (j < i))) (tCB (rLenS K) (tCons (tVar 1) tNil)) (tC (.int 64))))) q (!inR (lstN nm) row.length 64) := jt_is (jt_or (jt_test (je_lt (lenR _ rfl) (je_var (i := 2) rfl))) (fun _ => jt_test (je_gt (lenR _ rfl) je_int))) (cnt_not _ _)
  have lstT : ∀ (ps : Kn) (te : TE) (r : List Int), JD K T.M W0 te ps (.tuple (r.map .int)) → JS K T.M W0 (tRet (tTup (tCons (tC (.str "list")) (tCons (tC (.str "")) (tCons te (tCons (tC (.bl true)) tNil)))))) ps (.rt (dv K (dueD (.ok r)))) := fun ps te r h => js_ret (je_tup (ds := [.str "list", .str "", .tuple (r.map .int), .bool true]) (ja_cons je_str (ja_cons je_str (ja_cons h (ja_cons je_bl ja_nil)))))
  unfold dueE at th
  unfold rowE at th
  cases hb : inR (lstN nm) row.length 64 with
  | false =>
    rw [hb] at th t2
    exact fin_ok (r := .rt (dv K (raisedD ⟨.WrongCount, .int row.length⟩))) (pre (js_rT t2 (js_ret (je_tup (ds := [.str "raised", .str "WrongCount", .int row.length, .bool true]) (ja_cons je_str (ja_cons je_str (ja_cons (lenR _ rfl) (ja_cons je_bl ja_nil)))))))) (by exact rfl) fh al th
  | true =>
    have hr : rowE (lstN nm) row = row.findSome? farE := by
      unfold rowE
      rw [hb]
    rw [hb] at th t2
    have loop : JS K T.M W0 (tFor (iList K (tVar 1)) (gName 3) (tIfS (tTest (tOp (rI0 fun i j => .bl (decide (j < i))) (tCB rAbs (tCons (tVar 3) tNil)) (tOp (rI CPow fun i j => .int (i ^ j.toNat)) (tC (.int 10)) (tC (.int 40))))) (tRet (tTup (tCons (tC (.str "raised")) (tCons (tC (.str "TooFar")) (tCons (tVar 3) (tCons (tC (.bl true)) tNil)))))) tNext)) q (ends q ((row.findSome? farE).map (tell K))) := js_first (vs := [3]) row .int farE (tell K) (ji_list (je_lvd (je_var (i := 1) rfl))) fun x hx => ⟨_, jg_name, by
      have t3 := jt_is (jt_test (je_gt (je_abs (je_var (K := K) (M := T.M) (W := W0) (ps := q.set 3 (some (dv K (.int x)))) (i := 3) rfl)) (p40 _))) (far_not x)
      unfold farE
      cases hx2 : inR (-M40) x M40 with
      | true =>
        rw [hx2] at t3
        exact js_weak (js_if t3 (fun z => Bool.noConfusion z) (fun _ => js_next)) ⟨.inr rfl, .inr rfl, .inr rfl, .inl rfl, .inr rfl, .inr rfl, trivial⟩
      | false =>
        rw [hx2] at t3
        exact js_if t3 (fun _ => js_ret (je_tup (ds := [.str "raised", .str "TooFar", .int x, .bool true]) (ja_cons je_str (ja_cons je_str (ja_cons (je_var (i := 3) rfl) (ja_cons je_bl ja_nil)))))) (fun z => Bool.noConfusion z)⟩
    cases hf : row.findSome? farE with
    | some e =>
      rw [hf] at th loop
      exact fin_ok (r := .rt (dv K (raisedD e))) (pre (js_rF t2 (js_rt loop))) (by exact rfl) fh al th
    | none =>
      rw [hf] at th loop hr
      have h64 := (rowE_len hr).1
      have lv1 : ∀ ps : Kn, ps[1]? = some (some rd) → JV K T.M W0 (tVar 1) ps rd := fun ps h => je_var (i := 1) h
      cases nm with
      | spread =>
        exact fin_ok (r := .rt (dv K (dueD (.ok (KM.mv 1 row))))) (pre (js_rF t2 (js_seq (qs := q) loop (js_rT (isS (s1 := "spread") rfl) (lstT _ _ _ (je_tupL (je_lvd (je_call (args := args__law_moved T) (dom := dom__law_moved) (out := out__law_moved T) (row, 1) (ja_cons (je_lvd (lv1 _ rfl)) (ja_cons je_int ja_nil)) ⟨by show row.length ≤ 1000; omega, by show (-1000 : Int) ≤ 1; decide, by show (1 : Int) ≤ 1000; decide⟩)))))))) (by exact rfl) fh al th
      | gather =>
        exact fin_ok (r := .rt (dv K (dueD (.ok (KM.mv (-1) row))))) (pre (js_rF t2 (js_seq (qs := q) loop (js_rF (isS (s1 := "gather") rfl) (js_rT (isS (s1 := "gather") rfl) (lstT _ _ _ (je_tupL (je_lvd (je_call (args := args__law_moved T) (dom := dom__law_moved) (out := out__law_moved T) (row, -1) (ja_cons (je_lvd (lv1 _ rfl)) (ja_cons (je_neg je_int) ja_nil)) ⟨by show row.length ≤ 1000; omega, by show (-1000 : Int) ≤ -1; decide, by show (-1 : Int) ≤ 1000; decide⟩))))))))) (by exact rfl) fh al th
      | bends =>
        have dd : ∀ ps : Kn, ps[1]? = some (some rd) → JN K (tCallS (PrmN K (args__law_differences T) dom__law_differences out__law_differences) (WE W0) (tCons (tCallS (PrmN K (args__law_differences T) dom__law_differences out__law_differences) (WE W0) (tCons (tVar 1) tNil)) tNil)) ps ((KM.difs 0 (KM.difs 0 row)).map .int) := fun ps h => jn_call (M := T.M) (W := W0) (args := args__law_differences T) (dom := dom__law_differences) (out := out__law_differences) (KM.difs 0 row) (ja_cons (jn_lv (jn_call (M := T.M) (W := W0) (args := args__law_differences T) (dom := dom__law_differences) (out := out__law_differences) row (ja_cons (lv1 _ h) ja_nil) (by show row.length ≤ 900; omega))) ja_nil) (by show (KM.difs 0 row).length ≤ 900; rw [KM.difs_len]; omega)
        exact fin_ok (r := .rt (dv K (dueD (.ok (KM.difs 0 (KM.difs 0 row)))))) (pre (js_rF t2 (js_seq (qs := q) loop (js_rF (isS (s1 := "bends") rfl) (js_rF (isS (s1 := "bends") rfl) (js_rT (isS (s1 := "bends") rfl) (lstT _ _ _ (je_tupL (jn_told (dd _ rfl)))))))))) (by exact rfl) fh al th
      | unbend =>
        have wT : JD K T.M W0 (tCB (rSum K) (tCons (tLc (iRng1 (tCons (tCB (rLenS K) (tCons (tVar 1) tNil)) tNil)) (gName 5) tYes (tOp (rI CMul fun i j => .int (i * j)) (tVar 5) (tOp (rIxL K) (tVar 1) (tVar 5))) [5]) tNil)) q (.int (KM.wt 0 row)) := by
          rw [← wt_sum]
          refine je_sum (ns := (List.range row.length).map fun (k : Nat) => (k : Int) * row.getD k 0) (je_is (je_lc (vs := [5]) (W' := fun _ _ _ _ => False) (List.range row.length) (fun (m : Nat) => .int (m : Int)) (fun _ => true) (fun m => .int ((m : Int) * row.getD m 0)) (ji_uptoN (lenR _ rfl) (by omega)) (by rw [List.length_range]; omega) fun m hm => ⟨_, jg_name, jt_yes, fun _ => ?_⟩) (by rw [filter_yes, List.map_map]; rfl))
          have m64 := List.mem_range.mp hm
          exact je_mul (je_var (i := 5) rfl) (je_ixL (je_lvd (je_var (i := 1) rfl)) (je_var (i := 5) rfl) (at_getD m64)) (near_mul (by omega))
        let q4 : Kn := [some nd, some rd, some (dv K (.int (lstN .unbend))), none, some (dv K (.int (KM.wt 0 row))), none]
        have tz : JT K T.M W0 (tOr (tTest (tOp rNe (tCB (rSum K) (tCons (tVar 1) tNil)) (tC (.int 0)))) (tTest (tOp rNe (tVar 4) (tC (.int 0))))) q4 (!zz row) := jt_is (jt_or (jt_test (je_neI (je_sum (ns := row) (je_lvd (je_var (i := 1) rfl))) je_int)) (fun _ => jt_test (je_neI (je_var (i := 4) rfl) je_int))) (by unfold zz; rw [Bool.not_and])
        have ho2 : okR row .unbend = match zz row with | true => .ok ((ttR row).take (row.length - 2)) | false => .error wrB := rfl
        have tt : JN K (tCallS (PrmN K (args__law_totals T) dom__law_totals out__law_totals) (WE W0) (tCons (tCallS (PrmN K (args__law_totals T) dom__law_totals out__law_totals) (WE W0) (tCons (tVar 1) tNil)) tNil)) q4 ((ttR row).map .int) := jn_call (M := T.M) (W := W0) (args := args__law_totals T) (dom := dom__law_totals) (out := out__law_totals) (KM.tots 0 row) (ja_cons (jn_told (jn_call (M := T.M) (W := W0) (args := args__law_totals T) (dom := dom__law_totals) (out := out__law_totals) row (ja_cons (je_lvd (je_var (i := 1) rfl)) ja_nil) (by show row.length ≤ 1000; omega))) ja_nil) (by show (KM.tots 0 row).length ≤ 1000; rw [KM.tots_len]; omega)
        dsimp only at th
        rw [ho2] at th
        cases hz : zz row with
        | false =>
          rw [hz] at th tz
          refine fin_ok (r := .rt (dv K (raisedD wrB))) (pre (js_rF t2 (js_seq (qs := q) loop ?_))) (by exact rfl) fh al th
          refine js_rF (isS (s1 := "unbend") rfl) (js_rF (isS (s1 := "unbend") rfl) (js_rF (isS (s1 := "unbend") rfl) (js_seq (qs := q4) (js_set (i := 4) wT) ?_)))
          exact js_rT tz (js_ret (je_tup (ds := [.str "raised", .str "WrongRow", .str "bends", .bool true]) (ja_cons je_str (ja_cons je_str (ja_cons je_str (ja_cons je_bl ja_nil))))))
        | true =>
          rw [hz] at th tz
          refine fin_ok (r := .rt (dv K (dueD (.ok ((ttR row).take (row.length - 2)))))) (pre (js_rF t2 (js_seq (qs := q) loop ?_))) (by exact rfl) fh al th
          refine js_rF (isS (s1 := "unbend") rfl) (js_rF (isS (s1 := "unbend") rfl) (js_rF (isS (s1 := "unbend") rfl) (js_seq (qs := q4) (js_set (i := 4) wT) ?_)))
          exact js_rF tz (lstT _ _ _ (je_tupL (je_is (je_slL (jn_told tt) jo_none jo_neg) (congrArg PyData.list (by rw [cut_n2, tt_len])))))
end K02

namespace K02
open PySem PySem.Spec PyProof.Rows L2 Evl EB PySem.W
/-! ### told -/
theorem rowE_c {l : Int} {row : List Int} {e : Er} (h : rowE l row = some e) : (∃ v, e = ⟨.WrongCount, .int v⟩) ∨ ∃ v, e = ⟨.TooFar, .int v⟩ := by
  unfold rowE at h
  cases hb : inR l row.length 64 with
  | false =>
    rw [hb] at h
    cases h
    exact .inl ⟨_, rfl⟩
  | true =>
    rw [hb] at h
    obtain ⟨x, _, hx⟩ := List.exists_of_findSome?_eq_some h
    unfold farE at hx
    cases h2 : inR (-M40) x M40 with
    | true => rw [h2] at hx; cases hx
    | false =>
      rw [h2] at hx
      cases hx
      exact .inr ⟨_, rfl⟩
theorem due_c {nm : Nm} {row : List Int} {e : Er} (h : dueE nm row = .error e) : (∃ v, e = ⟨.WrongCount, .int v⟩) ∨ (∃ v, e = ⟨.TooFar, .int v⟩) ∨ e = wrB := by
  unfold dueE at h
  cases hr : rowE (lstN nm) row with
  | some e2 =>
    rw [hr] at h
    cases h
    rcases rowE_c hr with ⟨v, rfl⟩ | ⟨v, rfl⟩
    · exact .inl ⟨v, rfl⟩
    · exact .inr (.inl ⟨v, rfl⟩)
  | none =>
    rw [hr] at h
    cases nm with
    | spread => cases h
    | gather => cases h
    | bends => cases h
    | unbend =>
      have h : (match zz row with | true => (.ok ((ttR row).take (row.length - 2)) : Except Er (List Int)) | false => .error wrB) = .error e := h
      cases hz : zz row with
      | true => rw [hz] at h; cases h
      | false =>
        rw [hz] at h
        cases h
        exact .inr (.inr rfl)
theorem due_len {nm : Nm} {row r : List Int} (h : dueE nm row = .ok r) : r.length ≤ 70 := by
  unfold dueE at h
  cases hr : rowE (lstN nm) row with
  | some e2 => rw [hr] at h; cases h
  | none =>
    rw [hr] at h
    have h64 := (rowE_len hr).1
    cases nm with
    | spread => cases h; rw [KM.mv_len]; omega
    | gather => cases h; rw [KM.mv_len]; omega
    | bends => cases h; rw [KM.difs_len, KM.difs_len]; omega
    | unbend =>
      have h : (match zz row with | true => (.ok ((ttR row).take (row.length - 2)) : Except Er (List Int)) | false => .error wrB) = .ok r := h
      cases hz : zz row with
      | false => rw [hz] at h; cases h
      | true =>
        rw [hz] at h
        cases h
        have := tt_len row
        rw [List.length_take]
        omega
abbrev callE {K : PySem.W.Frag} (M : EC → Addr) (W : WX) (args : Qr → List PV) (dom : Qr → Prop) (out : Qr → Except Er (List PyData)) : TS := tAsg (tCallS (PrmNE K M args dom out) (WE W) (tCons (tVar 1) tNil)) (gName 3)
abbrev tbT {K : PySem.W.Frag} {mg : Str → Option Value} (T : Tx K mg) : WX → TS := fun W => tIfS (isStr "spread") (callE (K := K) T.M W (args_spread T) dom_spread out_spread) (tIfS (isStr "gather") (callE (K := K) T.M W (args_gather T) dom_gather out_gather) (tIfS (isStr "bends") (callE (K := K) T.M W (args_bends T) dom_bends out_bends) (callE (K := K) T.M W (args_unbend T) dom_unbend out_unbend)))
def args__law_told {K : PySem.W.Frag} {mg : Str → Option Value} (T : Tx K mg) : Nm × Bool × List Int → List PV := fun a => [dv K (.str (nmS a.1)), dv K (sq a.2.1 (a.2.2.map .int))]
def dom__law_told : Nm × Bool × List Int → Prop := fun a => a.2.2.length ≤ 1000
def out__law_told {K : PySem.W.Frag} {mg : Str → Option Value} (T : Tx K mg) : Nm × Bool × List Int → Out := fun a => .ok (dv K (dueD (dueE a.1 a.2.2)))
theorem rep_one {α : Type} (x : α) (n : Nat) : (List.replicate n [x]).flatten = List.replicate n x := by
  induction n with
  | zero => rfl
  | succ n ih => rw [List.replicate_succ, List.flatten_cons, ih]; rfl
theorem map_const {α β : Type} (l : List α) (y : β) : l.map (fun _ => y) = List.replicate l.length y := by
  induction l with
  | nil => rfl
  | cons x r ih => rw [List.map_cons, ih]; rfl
theorem ok_reps (n : Nat) : Ok (.list (List.replicate n (.bool true))) 1 := ok_lst (n := 0) fun d hd => by
  rw [List.eq_of_mem_replicate hd]
  exact ok_bl
theorem ok__law_told {P : Program} {w : World} {K : PySem.W.Frag} {mg : Str → Option Value} {base : Heap} (T : Tx K mg) : FnOk P w K mg base (L2.CX P w) 6 T.a__law_told T.fd__law_told ["name", "row"] (Prm K T.M (args__law_told T) dom__law_told (out__law_told T)) := by
  refine T.F__law_told.okX sc__law_told (fun vs H Q E h => by obtain ⟨a, F, _, al, _⟩ := h; exact al.length) (fun cdv A outer s H vs Q E hr h => ?_)
  have tk : Takes (cxOf (L2.CX P w) P w K mg base N__law_told "_law_told" (defScope s__law_told) T.a__law_told cdv A outer s H E) (fun cls d _ H => E cls d H) := takes_of rfl rfl rfl rfl
  obtain ⟨a, F, fh, al, hd, th⟩ := h
  refine ⟨_, (pss_cons (ps_set (i := 2) sc__law_told.nd rfl (by first | exact Or.inl rfl | exact Or.inr rfl) (pe_callTy call_list_of (by rfl) T.z_list PyProof.Rows.boot_list (pa_cons (pv 1) pa_nil)))
      (pss_cons (ps_try_named (tb := fun W => _) rfl rfl sc__law_told.nd tk (fun W pn xe tkb pob => (pss_one (ps_if (pt_cmpR op_eq (pv 0) pe_str (nomark _)) (pss_one (ps_set (i := 3) sc__law_told.nd rfl (by first | exact Or.inl rfl | exact Or.inr rfl) (pe_callS (ok_spread T) (hr.mono (by decide)) (by rfl) T.g_spread T.F_spread.kp (b_spread T) (fun σ => passAt tkb σ) (pa_cons (pv 1) pa_nil)))) (pss_one (ps_if (pt_cmpR op_eq (pv 0) pe_str (nomark _)) (pss_one (ps_set (i := 3) sc__law_told.nd rfl (by first | exact Or.inl rfl | exact Or.inr rfl) (pe_callS (ok_gather T) (hr.mono (by decide)) (by rfl) T.g_gather T.F_gather.kp (b_gather T) (fun σ => passAt tkb σ) (pa_cons (pv 1) pa_nil)))) (pss_one (ps_if (pt_cmpR op_eq (pv 0) pe_str (nomark _)) (pss_one (ps_set (i := 3) sc__law_told.nd rfl (by first | exact Or.inl rfl | exact Or.inr rfl) (pe_callS (ok_bends T) (hr.mono (by decide)) (by rfl) T.g_bends T.F_bends.kp (b_bends T) (fun σ => passAt tkb σ) (pa_cons (pv 1) pa_nil)))) (pss_one (ps_set (i := 3) sc__law_told.nd rfl (by first | exact Or.inl rfl | exact Or.inr rfl) (pe_callS (ok_unbend T) (hr.mono (by decide)) (by rfl) T.g_unbend T.F_unbend.kp (b_unbend T) (fun σ => passAt tkb σ) (pa_cons (pv 1) pa_nil))))))))))) (Clauses.cons (c := .ref T.a_WrongCount) (i := 4) ⟨rfl, by decide, .inl T.g_WrongCount⟩ rfl rfl (fun a ob cls d pn hz hf => (pss_cons (ps_set (i := 5) sc__law_told.nd rfl (by first | exact Or.inl rfl | exact Or.inr rfl) (pe_and (pe_callB (call_isEx hz hf) (by rfl) T.z_isinstance PyProof.Rows.boot_isinstance (pa_cons (pv 4) (pa_cons (pe_glob (v := .ref T.a_BowlError) (by rfl) T.g_BowlError rfl) pa_nil))) (pe_one (pe_callB (call_isEx hz hf) (by rfl) T.z_isinstance PyProof.Rows.boot_isinstance (pa_cons (pv 4) (pa_cons (pe_bltn (v := .ty "ValueError") (by rfl) T.z_ValueError PyProof.Rows.Boot.«ValueError» rfl) pa_nil))))))
      (pss_one (ps_ret (pe_tup (pa_cons pe_str (pa_cons pe_str (pa_cons (pe_xf (T.X_WrongCount).xf (T.X_WrongCount).nf hz hf (pv 4)) (pa_cons (pe_and (pv 5) (pe_one (pe_not (pe_callB (call_isExT hz hf) (by rfl) T.z_isinstance PyProof.Rows.boot_isinstance (pa_cons (pv 4) (pa_cons (pe_tup (pa_cons (pe_glob (v := .ref T.a_TooFar) (by rfl) T.g_TooFar rfl) (pa_cons (pe_glob (v := .ref T.a_WrongRow) (by rfl) T.g_WrongRow rfl) pa_nil))) pa_nil)))))) pa_nil))))))))) (Clauses.cons (c := .ref T.a_TooFar) (i := 4) ⟨rfl, by decide, .inl T.g_TooFar⟩ rfl rfl (fun a ob cls d pn hz hf => (pss_cons (ps_set (i := 5) sc__law_told.nd rfl (by first | exact Or.inl rfl | exact Or.inr rfl) (pe_and (pe_callB (call_isEx hz hf) (by rfl) T.z_isinstance PyProof.Rows.boot_isinstance (pa_cons (pv 4) (pa_cons (pe_glob (v := .ref T.a_BowlError) (by rfl) T.g_BowlError rfl) pa_nil))) (pe_one (pe_callB (call_isEx hz hf) (by rfl) T.z_isinstance PyProof.Rows.boot_isinstance (pa_cons (pv 4) (pa_cons (pe_bltn (v := .ty "ValueError") (by rfl) T.z_ValueError PyProof.Rows.Boot.«ValueError» rfl) pa_nil))))))
      (pss_one (ps_ret (pe_tup (pa_cons pe_str (pa_cons pe_str (pa_cons (pe_xf (T.X_TooFar).xf (T.X_TooFar).nf hz hf (pv 4)) (pa_cons (pe_and (pv 5) (pe_one (pe_not (pe_callB (call_isExT hz hf) (by rfl) T.z_isinstance PyProof.Rows.boot_isinstance (pa_cons (pv 4) (pa_cons (pe_tup (pa_cons (pe_glob (v := .ref T.a_WrongCount) (by rfl) T.g_WrongCount rfl) (pa_cons (pe_glob (v := .ref T.a_WrongRow) (by rfl) T.g_WrongRow rfl) pa_nil))) pa_nil)))))) pa_nil))))))))) (Clauses.cons (c := .ref T.a_WrongRow) (i := 4) ⟨rfl, by decide, .inl T.g_WrongRow⟩ rfl rfl (fun a ob cls d pn hz hf => (pss_cons (ps_set (i := 5) sc__law_told.nd rfl (by first | exact Or.inl rfl | exact Or.inr rfl) (pe_and (pe_callB (call_isEx hz hf) (by rfl) T.z_isinstance PyProof.Rows.boot_isinstance (pa_cons (pv 4) (pa_cons (pe_glob (v := .ref T.a_BowlError) (by rfl) T.g_BowlError rfl) pa_nil))) (pe_one (pe_callB (call_isEx hz hf) (by rfl) T.z_isinstance PyProof.Rows.boot_isinstance (pa_cons (pv 4) (pa_cons (pe_bltn (v := .ty "ValueError") (by rfl) T.z_ValueError PyProof.Rows.Boot.«ValueError» rfl) pa_nil))))))
      (pss_one (ps_ret (pe_tup (pa_cons pe_str (pa_cons pe_str (pa_cons (pe_xf (T.X_WrongRow).xf (T.X_WrongRow).nf hz hf (pv 4)) (pa_cons (pe_and (pv 5) (pe_one (pe_not (pe_callB (call_isExT hz hf) (by rfl) T.z_isinstance PyProof.Rows.boot_isinstance (pa_cons (pv 4) (pa_cons (pe_tup (pa_cons (pe_glob (v := .ref T.a_TooFar) (by rfl) T.g_TooFar rfl) (pa_cons (pe_glob (v := .ref T.a_WrongCount) (by rfl) T.g_WrongCount rfl) pa_nil))) pa_nil)))))) pa_nil))))))))) Clauses.nil))))
      (pss_cons (ps_if (PW.pt (pw_or (pt_not (pt_val (pe_callB call_isi (by rfl) T.z_isinstance PyProof.Rows.boot_isinstance (pa_cons (pv 3) (pa_cons (pe_bltn (v := .ty "list") (by rfl) T.z_list PyProof.Rows.boot_list rfl) pa_nil))))) (pw_or1 (pt_cmpR (op_neD hr.units) (pe_callTy call_list_of (by rfl) T.z_list PyProof.Rows.boot_list (pa_cons (pv 1) pa_nil)) (pv 2) (nomark _))))) (pss_one (ps_ret (pe_tup (pa_cons pe_str (pa_cons pe_str (pa_cons (pe_tup pa_nil) (pa_cons pe_bl pa_nil))))))) pss_nil)
      (pss_cons (ps_set (i := 6) sc__law_told.nd rfl (by first | exact Or.inl rfl | exact Or.inr rfl) (pe_callTy call_tuple_of (by rfl) T.z_tuple PyProof.Rows.boot_tuple (pa_cons (pv 3) pa_nil)))
      (pss_cons (ps_expr (pe_bm PySem.F.plainAttrs_list PySem.F.slot_list_append PySem.F.type_list_append mt_append (pv 3) (pa_cons pe_int pa_nil)))
      (pss_one (ps_ret (pe_tup (pa_cons pe_str (pa_cons pe_str (pa_cons (pv 6) (pa_cons (pe_cmpR (op_eqD hr.units) (pe_lc (own := [("value", 7)]) (g := (gName 7)) (tt := tYes) (te := (tCallS (Prm K T.M (args__law_whole T) dom__law_whole (out__law_whole T)) (WE fun _ _ _ _ => False) (tCons (tVar 7) tNil))) rfl sc__law_told.nd (pi_tup (pv 6)) (blkOk_by (N := N__law_told) (sc := defScope s__law_told) (own := [("value", 7)]) (by decide +kernel)) (fun _ _ _ _ _ => (pg_name (i := 7) sc__law_told.nd rfl (by first | exact Or.inl rfl | exact Or.inr rfl))) (fun _ _ _ _ _ => by exact pts_nil) (fun _ _ _ _ _ => by exact (pe_callS (ok__law_whole T) (hr.mono (by decide)) (by rfl) T.g__law_whole T.F__law_whole.kp (b__law_whole T) (fun σ => passAt takes0 σ) (pa_cons (pv 7) pa_nil)))) (pe_op op_rep (pe_lst (pa_cons pe_bl pa_nil)) (pe_callB call_len_seq (by rfl) T.z_len PySem.boot_len (pa_cons (pv 6) pa_nil))) (nomark _)) pa_nil)))))))))))), ?_⟩
  obtain ⟨nm, b, row⟩ := a
  have hl : row.length ≤ 1000 := hd
  let W0 : WX := fun cls d _ H => E cls d H
  let nd : PV := dv K (.str (nmS nm))
  let rd : PV := dv K (sq b (row.map .int))
  let q2 : Kn := [some nd, some rd, some (dv K (.list (row.map .int))), none, none, none, none, none]
  have ho : out__law_told T (nm, b, row) = .ok (dv K (dueD (dueE nm row))) := rfl
  rw [ho] at th
  have hp := prog_due nm b row
  have ja : ∀ W' : WX, JA K T.M W' (tCons (tVar 1) tNil) q2 (args_spread T (b, row)) := fun W' => ja_cons (je_var (i := 1) rfl) ja_nil
  have lr : ∀ ps : Kn, ps[1]? = some (some rd) → JN K (tCB (rListS K) (tCons (tVar 1) tNil)) ps (row.map .int) := fun ps h => jn_listQ (M := T.M) (W := W0) (b := b) (je_var (i := 1) h)
  have st1 : JS K T.M W0 (tAsg (tCB (rListS K) (tCons (tVar 1) tNil)) (gName 2)) (entry N__law_told (args__law_told T (nm, b, row))) (.nx q2) := js_set (i := 2) (P := dv K (.list (row.map .int))) (jn_told (lr _ rfl))
  cases hq : dueE nm row with
  | error e =>
    rw [hq] at hp th
    have hb : ∀ W' : WX, JS K T.M W' (tbT T W') q2 (.er e) := fun W' => by
      cases nm with
      | spread => exact js_if (b := true) (isS (s1 := "spread") rfl) (fun _ => js_set_er (je_callE (M := T.M) (b, row) (ja W') trivial hp)) (fun z => Bool.noConfusion z)
      | gather => exact js_if (b := false) (isS (s1 := "gather") rfl) (fun z => Bool.noConfusion z) (fun _ => js_if (b := true) (isS (s1 := "gather") rfl) (fun _ => js_set_er (je_callE (M := T.M) (b, row) (ja W') trivial hp)) (fun z => Bool.noConfusion z))
      | bends => exact js_if (b := false) (isS (s1 := "bends") rfl) (fun z => Bool.noConfusion z) (fun _ => js_if (b := false) (isS (s1 := "bends") rfl) (fun z => Bool.noConfusion z) (fun _ => js_if (b := true) (isS (s1 := "bends") rfl) (fun _ => js_set_er (je_callE (M := T.M) (b, row) (ja W') trivial hp)) (fun z => Bool.noConfusion z)))
      | unbend => exact js_if (b := false) (isS (s1 := "unbend") rfl) (fun z => Bool.noConfusion z) (fun _ => js_if (b := false) (isS (s1 := "unbend") rfl) (fun z => Bool.noConfusion z) (fun _ => js_if (b := false) (isS (s1 := "unbend") rfl) (fun z => Bool.noConfusion z) (fun _ => js_set_er (je_callE (M := T.M) (b, row) (ja W') trivial hp))))
    refine fin_ok (r := .rt (dv K (raisedD e))) (js_seq st1 (js_rt (js_try_er (tb := tbT T) hb ?_))) (by exact rfl) fh al th
    rcases due_c hq with ⟨v, rfl⟩ | ⟨v, rfl⟩ | rfl
    · exact .inl ⟨T.x_WrongCount_WrongCount, suite_std (c := .WrongCount) (show 4 < 8 by decide) (show 5 < 8 by decide) (by decide) T.X_WrongCount.ek T.k_WrongCount_BowlError T.k_WrongCount_ValueError T.k_WrongCount_TooFar_WrongRow⟩
    · exact .inr ⟨T.x_TooFar_WrongCount, .inl ⟨T.x_TooFar_TooFar, suite_std (c := .TooFar) (show 4 < 8 by decide) (show 5 < 8 by decide) (by decide) T.X_TooFar.ek T.k_TooFar_BowlError T.k_TooFar_ValueError T.k_TooFar_WrongCount_WrongRow⟩⟩
    · exact .inr ⟨T.x_WrongRow_WrongCount, .inr ⟨T.x_WrongRow_TooFar, .inl ⟨T.x_WrongRow_WrongRow, suite_std (c := .WrongRow) (show 4 < 8 by decide) (show 5 < 8 by decide) (by decide) T.X_WrongRow.ek T.k_WrongRow_BowlError T.k_WrongRow_ValueError T.k_WrongRow_TooFar_WrongCount⟩⟩⟩
  | ok r =>
    rw [hq] at hp th
    have rl := due_len hq
    let kept := r.map PyData.int
    have hb : ∀ W' : WX, JAN K T.M W' (tbT T W') q2 3 kept := fun W' => by
      cases nm with
      | spread => exact jan_ifT (isS (s1 := "spread") rfl) (jan_asg (jn_callE (M := T.M) (W := W') (b, row) (ja W') trivial hp))
      | gather => exact jan_ifF (isS (s1 := "gather") rfl) (jan_ifT (isS (s1 := "gather") rfl) (jan_asg (jn_callE (M := T.M) (W := W') (b, row) (ja W') trivial hp)))
      | bends => exact jan_ifF (isS (s1 := "bends") rfl) (jan_ifF (isS (s1 := "bends") rfl) (jan_ifT (isS (s1 := "bends") rfl) (jan_asg (jn_callE (M := T.M) (W := W') (b, row) (ja W') trivial hp))))
      | unbend => exact jan_ifF (isS (s1 := "unbend") rfl) (jan_ifF (isS (s1 := "unbend") rfl) (jan_ifF (isS (s1 := "unbend") rfl) (jan_asg (jn_callE (M := T.M) (W := W') (b, row) (ja W') trivial hp))))
    refine fin_ok (r := .rt (dv K (.tuple [.str "list", .str "", .tuple kept, .bool true]))) (js_seq st1 (jan_try (tb := tbT T) (i := 3) hb fun D F1 H1 hD => ?_)) (by exact rfl) fh al th
    let q3 : Kn := [some nd, some rd, some (dv K (.list (row.map .int))), some (xv (.ref D)), none, none, none, none]
    let q6 : Kn := [some nd, some rd, some (dv K (.list (row.map .int))), some (xv (.ref D)), none, none, some (dv K (.tuple kept)), none]
    refine jl_seq (qs := q3) (es := kept) (jl_ifR (i := 3) (b := false) rfl (jt_is (jt_or (jt_not (jt_B (M := T.M) (W := W0) (je_isL (b := true) (je_var (i := 3) rfl) (by decide)))) (fun _ => jt_test (je_neR (jn_told (lr _ rfl)) (je_var (i := 2) rfl) (ok_row row)))) rfl) (fun z => Bool.noConfusion z) (fun _ => jl_js (M := T.M) (W := W0) js_next))
      (jl_seq (qs := q6) (es := kept) (jl_copyT (i := 3) (j := 6) rfl)
      (jl_seq (qs := q6) (es := kept ++ [.int 1]) (jl_app (i := 3) (d := .int 1) rfl hD (ja_cons je_int ja_nil) (by show (r.map PyData.int).length < 90000; rw [List.length_map]; omega))
      (jl_rt (je_tup (ds := [.str "list", .str "", .tuple kept, .bool true]) (ja_cons je_str (ja_cons je_str (ja_cons (je_var (i := 6) rfl) (ja_cons (je_eqR (d := .list (List.replicate r.length (.bool true))) (je_is (je_lc (vs := [7]) (W' := fun _ _ _ _ => False) r .int (fun _ => true) (fun _ => .bool true) (ji_tup (je_var (i := 6) rfl)) (by omega) fun x _ => ⟨_, jg_name, jt_yes, fun _ => je_call (args := args__law_whole T) (dom := dom__law_whole) (out := out__law_whole T) x (ja_cons (je_var (i := 7) rfl) ja_nil) trivial⟩) (by rw [filter_yes, map_const])) (je_is (jn_told (jn_rep (M := T.M) (W := W0) (ds := [.bool true]) (k := r.length) (je_lstV (ds := [.bool true]) (ja_cons je_bl ja_nil)) (je_is (je_lenT (je_var (i := 6) rfl)) (by rw [List.length_map])) (by simp; omega) (by omega))) (by rw [rep_one])) (ok_reps _)) ja_nil))))))))
end K02

namespace K02
open PySem PySem.Spec PyProof.Rows L2 Evl EB PySem.W
theorem ok_four {x y z u : PyData} {n : Nat} (h1 : Ok x n) (h2 : Ok y n) (h3 : Ok z n) (h4 : Ok u n) : Ok (.tuple [x, y, z, u]) (n + 1) := by
  refine ok_tup fun d hd => ?_
  rcases List.mem_cons.mp hd with rfl | hd
  · exact h1
  rcases List.mem_cons.mp hd with rfl | hd
  · exact h2
  rcases List.mem_cons.mp hd with rfl | hd
  · exact h3
  rcases List.mem_cons.mp hd with rfl | hd
  · exact h4
  · cases hd
theorem ok_rsd {e : Er} (h1 : PyData.strOk (nmE e.c) = true) (h2 : Ok e.val 1) : Ok (raisedD e) 2 := ok_four (ok_str (by decide +kernel)) (ok_str h1) h2 ok_bl
theorem okn_due (nm : Nm) (row : List Int) : Ok (dueD (dueE nm row)) 2 := by
  cases h : dueE nm row with
  | ok r => exact ok_four (n := 1) (ok_str (by decide +kernel)) (ok_str (by decide +kernel)) (ok_tup (n := 0) (ok_ints r)) ok_bl
  | error e =>
    rcases due_c h with ⟨v, rfl⟩ | ⟨v, rfl⟩ | rfl
    · exact ok_rsd (show PyData.strOk (nmE .WrongCount) = true by decide +kernel) ok_int
    · exact ok_rsd (show PyData.strOk (nmE .TooFar) = true by decide +kernel) ok_int
    · exact ok_rsd (by decide +kernel) (ok_str (by decide +kernel))
def args__law_sums_hold {K : PySem.W.Frag} {mg : Str → Option Value} (T : Tx K mg) : List Nm × List Int → List PV := fun a => [dv K (.tuple (a.1.map fun nm => .str (nmS nm))), lv K (a.2.map .int)]
def dom__law_sums_hold : List Nm × List Int → Prop := fun a => a.2.length ≤ 900
def out__law_sums_hold {K : PySem.W.Frag} {mg : Str → Option Value} (T : Tx K mg) : List Nm × List Int → Out := fun a => .ok (dv K (.bool true))
theorem ok__law_sums_hold {P : Program} {w : World} {K : PySem.W.Frag} {mg : Str → Option Value} {base : Heap} (T : Tx K mg) : FnOk P w K mg base (L2.CX P w) 7 T.a__law_sums_hold T.fd__law_sums_hold ["names", "row"] (Prm K T.M (args__law_sums_hold T) dom__law_sums_hold (out__law_sums_hold T)) := by
  refine T.F__law_sums_hold.okX sc__law_sums_hold (fun vs H Q E h => by obtain ⟨a, F, _, al, _⟩ := h; exact al.length) (fun cdv A outer s H vs Q E hr h => ?_)
  have tk : Takes (cxOf (L2.CX P w) P w K mg base N__law_sums_hold "_law_sums_hold" (defScope s__law_sums_hold) T.a__law_sums_hold cdv A outer s H E) (fun cls d _ H => E cls d H) := takes_of rfl rfl rfl rfl
  obtain ⟨a, F, fh, al, hd, th⟩ := h
  refine ⟨_, (pss_cons (ps_for (passes_of rfl) rfl (pi_tup (pv 0)) (pg_name (i := 2) sc__law_sums_hold.nd rfl (by first | exact Or.inl rfl | exact Or.inr rfl)) (pss_cons (ps_set (i := 3) sc__law_sums_hold.nd rfl (by first | exact Or.inl rfl | exact Or.inr rfl) (pe_callS (ok__law_due T) (hr.mono (by decide)) (by rfl) T.g__law_due T.F__law_due.kp (b__law_due T) (fun σ => passAt tk σ) (pa_cons (pv 2) (pa_cons (pv 1) pa_nil))))
      (pss_one (ps_for (passes_of rfl) rfl (pi_tup (pe_tup (pa_cons (pe_callTy call_list_of (by rfl) T.z_list PyProof.Rows.boot_list (pa_cons (pv 1) pa_nil)) (pa_cons (pe_callTy call_tuple_of (by rfl) T.z_tuple PyProof.Rows.boot_tuple (pa_cons (pv 1) pa_nil)) pa_nil)))) (pg_name (i := 4) sc__law_sums_hold.nd rfl (by first | exact Or.inl rfl | exact Or.inr rfl)) (pss_one (ps_if (PW.pt (pw_or (pt_cmpR (op_neD hr.units) (pe_callS (ok__law_told T) (hr.mono (by decide)) (by rfl) T.g__law_told T.F__law_told.kp (b__law_told T) (fun σ => passAt tk σ) (pa_cons (pv 2) (pa_cons (pv 4) pa_nil))) (pv 3) (nomark _)) (pw_or1 (pt_cmpR (op_neD hr.units) (pe_callTy call_list_of (by rfl) T.z_list PyProof.Rows.boot_list (pa_cons (pv 4) pa_nil)) (pv 1) (nomark _))))) (pss_one (ps_ret pe_bl)) pss_nil))))))
      (pss_one (ps_ret pe_bl))), ?_⟩
  obtain ⟨nms, row⟩ := a
  have hl : row.length ≤ 900 := hd
  let W0 : WX := fun cls d _ H => E cls d H
  let nd : PV := dv K (.tuple (nms.map fun nm => .str (nmS nm)))
  let rd : PV := lv K (row.map .int)
  let q : Kn := [some nd, some rd, none, none, none]
  refine fin_ok (r := .rt (dv K (.bool true))) (js_seq (qs := q) (js_allL (vs := [2]) nms (fun nm => .str (nmS nm)) (ji_tup (je_var (i := 0) rfl)) fun nm _ => ⟨_, jg_name, ?_⟩) (js_ret je_bl)) (by exact rfl) fh al th
  let dd : PV := dv K (dueD (dueE nm row))
  let q3 : Kn := [some nd, some rd, some (dv K (.str (nmS nm))), some dd, none]
  refine js_weak (qs := q3) (js_seq (qs := q3) (js_set (i := 3) (P := dd) (je_call (args := args__law_due T) (dom := dom__law_due) (out := out__law_due T) (nm, row) (ja_cons (je_var (i := 2) rfl) (ja_cons (je_var (i := 1) rfl) ja_nil)) (by show row.length ≤ 1000; omega)))
    (js_allL (vs := [4]) [true, false] (fun b => sq b (row.map .int)) (ji_tup (je_tup (ds := [.list (row.map .int), .tuple (row.map .int)]) (ja_cons (jn_told (jn_listL (M := T.M) (W := W0) (je_lvd (je_var (i := 1) rfl)))) (ja_cons (je_tupL (je_lvd (je_var (i := 1) rfl))) ja_nil)))) fun b _ => ⟨_, jg_name, ?_⟩)) ⟨.inr rfl, .inr rfl, .inl rfl, .inl rfl, .inr rfl, trivial⟩
  exact js_weak (js_if (b := false) (jt_is (jt_or (jt_test (je_neR (je_call (args := args__law_told T) (dom := dom__law_told) (out := out__law_told T) (nm, b, row) (ja_cons (je_var (i := 2) rfl) (ja_cons (je_var (i := 4) rfl) ja_nil)) (by show row.length ≤ 1000; omega)) (je_var (i := 3) rfl) (okn_due nm row))) (fun _ => jt_test (je_neR (jn_told (jn_listQ (M := T.M) (W := W0) (b := b) (je_var (i := 4) rfl))) (je_lvd (je_var (i := 1) rfl)) (ok_row row)))) rfl) (fun z => Bool.noConfusion z) (fun _ => js_next)) ⟨.inr rfl, .inr rfl, .inr rfl, .inr rfl, .inl rfl, trivial⟩
/-! ### there and back -/
def prs : List (Nm × Nm) := [(.spread, .gather), (.gather, .spread), (.bends, .unbend)]
def absI (x : Int) : Int := if x < 0 then -x else x
theorem max_ex : ∀ (l : List Int) (x : Int), ∃ m, m ∈ x :: l ∧ ∀ y ∈ x :: l, y ≤ m
  | [], x => ⟨x, by simp, by simp⟩
  | a :: l, x => by
    obtain ⟨m, h1, h2⟩ := max_ex l a
    by_cases h : x ≤ m
    · exact ⟨m, List.mem_cons_of_mem _ h1, fun y hy => by
        rcases List.mem_cons.mp hy with rfl | hy
        · exact h
        · exact h2 y hy⟩
    · exact ⟨x, List.mem_cons_self, fun y hy => by
        rcases List.mem_cons.mp hy with rfl | hy
        · omega
        · have := h2 y hy
          omega⟩
theorem back_ok {p : Nm × Nm} (hp : p ∈ prs) {row r : List Int} (h : dueE p.1 row = .ok r) (hl : r.length ≤ 64) (hx : ∀ x ∈ r, absI x ≤ M40) : dueE p.2 r = .ok row := by
  have far : r.findSome? farE = none := List.findSome?_eq_none_iff.mpr fun x hm => by
    have := hx x hm
    unfold farE
    have e : inR (-M40) x M40 = true := by
      have h2 := far_not x
      rw [decide_eq_false (by show ¬ M40 < absI x; omega)] at h2
      cases hb : inR (-M40) x M40 with
      | true => rfl
      | false => rw [hb] at h2; cases h2
    rw [e]
  have rok : ∀ l : Int, l ≤ r.length → rowE l r = none := fun l hll => by
    unfold rowE
    rw [inR_of hll (by omega)]
    exact far
  unfold dueE at h ⊢
  rcases List.mem_cons.mp hp with rfl | hp
  · rw [rok _ (by show (0 : Int) ≤ _; omega)]
    cases hr : rowE (lstN .spread) row with
    | some e => rw [hr] at h; cases h
    | none =>
      rw [hr] at h
      cases h
      exact congrArg Except.ok (KM.mv_mv 1 (-1) rfl row)
  rcases List.mem_cons.mp hp with rfl | hp
  · rw [rok _ (by show (0 : Int) ≤ _; omega)]
    cases hr : rowE (lstN .gather) row with
    | some e => rw [hr] at h; cases h
    | none =>
      rw [hr] at h
      cases h
      exact congrArg Except.ok (KM.mv_mv (-1) 1 rfl row)
  rcases List.mem_cons.mp hp with rfl | hp
  · cases hr : rowE (lstN .bends) row with
    | some e => rw [hr] at h; cases h
    | none =>
      rw [hr] at h
      cases h
      rw [rok _ (by show (2 : Int) ≤ _; rw [KM.difs_len, KM.difs_len]; omega)]
      show (match zz _ with | true => (.ok _ : Except Er (List Int)) | false => .error wrB) = _
      have z : zz (KM.difs 0 (KM.difs 0 row)) = true := by
        unfold zz
        rw [KM.back_sum, KM.back_wt]
        rfl
      rw [z]
      refine congrArg Except.ok ?_
      unfold ttR
      rw [KM.back, KM.difs_len, KM.difs_len, show row.length + 1 + 1 - 2 = row.length by omega, List.append_assoc, List.take_left']
      rfl
  · cases hp
def args__law_back_holds {K : PySem.W.Frag} {mg : Str → Option Value} (T : Tx K mg) : List Int → List PV := fun a => [lv K (a.map .int)]
def dom__law_back_holds : List Int → Prop := fun a => a.length ≤ 900
def out__law_back_holds {K : PySem.W.Frag} {mg : Str → Option Value} (T : Tx K mg) : List Int → Out := fun a => .ok (dv K (.bool true))
def encP (p : Nm × Nm) : PyData := .tuple [.str (nmS p.1), .str (nmS p.2)]
theorem ok__law_back_holds {P : Program} {w : World} {K : PySem.W.Frag} {mg : Str → Option Value} {base : Heap} (T : Tx K mg) : FnOk P w K mg base (L2.CX P w) 7 T.a__law_back_holds T.fd__law_back_holds ["row"] (Prm K T.M (args__law_back_holds T) dom__law_back_holds (out__law_back_holds T)) := by
  refine T.F__law_back_holds.okX sc__law_back_holds (fun vs H Q E h => by obtain ⟨a, F, _, al, _⟩ := h; exact al.length) (fun cdv A outer s H vs Q E hr h => ?_)
  have tk : Takes (cxOf (L2.CX P w) P w K mg base N__law_back_holds "_law_back_holds" (defScope s__law_back_holds) T.a__law_back_holds cdv A outer s H E) (fun cls d _ H => E cls d H) := takes_of rfl rfl rfl rfl
  obtain ⟨a, F, fh, al, hd, th⟩ := h
  refine ⟨_, (pss_cons (ps_for (passes_of rfl) rfl (pi_tup (pe_tup (pa_cons (pe_tup (pa_cons pe_str (pa_cons pe_str pa_nil))) (pa_cons (pe_tup (pa_cons pe_str (pa_cons pe_str pa_nil))) (pa_cons (pe_tup (pa_cons pe_str (pa_cons pe_str pa_nil))) pa_nil))))) (pg_tup rfl (pgs_cons (pg_name (i := 1) sc__law_back_holds.nd rfl (by first | exact Or.inl rfl | exact Or.inr rfl)) (pgs_cons (pg_name (i := 2) sc__law_back_holds.nd rfl (by first | exact Or.inl rfl | exact Or.inr rfl)) pgs_nil))) (pss_cons (ps_set (i := 3) sc__law_back_holds.nd rfl (by first | exact Or.inl rfl | exact Or.inr rfl) (pe_callS (ok__law_told T) (hr.mono (by decide)) (by rfl) T.g__law_told T.F__law_told.kp (b__law_told T) (fun σ => passAt tk σ) (pa_cons (pv 1) (pa_cons (pe_callTy call_list_of (by rfl) T.z_list PyProof.Rows.boot_list (pa_cons (pv 0) pa_nil)) pa_nil))))
      (pss_one (ps_if (pt_cmpR op_eq (pe_ix ix_tup (pv 3) pe_int (fun _ _ => rfl)) pe_str (nomark _)) (pss_cons (ps_set (i := 4) sc__law_back_holds.nd rfl (by first | exact Or.inl rfl | exact Or.inr rfl) (pe_callTy call_list_of (by rfl) T.z_list PyProof.Rows.boot_list (pa_cons (pe_ix ix_tup (pv 3) pe_int (fun _ _ => rfl)) pa_nil)))
      (pss_cons (ps_set (i := 5) sc__law_back_holds.nd rfl (by first | exact Or.inl rfl | exact Or.inr rfl) (pe_tup (pa_cons pe_str (pa_cons pe_str (pa_cons (pe_callTy call_tuple_of (by rfl) T.z_tuple PyProof.Rows.boot_tuple (pa_cons (pv 0) pa_nil)) (pa_cons pe_bl pa_nil))))))
      (pss_cons (ps_if (PW.pt (pw_or (pt_cmpR op_gt (pe_callB call_len_seq (by rfl) T.z_len PySem.boot_len (pa_cons (pv 4) pa_nil)) pe_int (nomark _)) (pw_or1 (pt_cmpR op_gt (pe_callB (cr_max rfl) (by rfl) T.z_max (by decide +kernel) (pa_cons (pe_op op_cat (pe_lst (pa_cons pe_int pa_nil)) (pe_lc (own := [("value", 6)]) (g := (gName 6)) (tt := tYes) (te := (tCB rAbs (tCons (tVar 6) tNil))) rfl sc__law_back_holds.nd (pi_list (pv 4)) (blkOk_by (N := N__law_back_holds) (sc := defScope s__law_back_holds) (own := [("value", 6)]) (by decide +kernel)) (fun _ _ _ _ _ => (pg_name (i := 6) sc__law_back_holds.nd rfl (by first | exact Or.inl rfl | exact Or.inr rfl))) (fun _ _ _ _ _ => by exact pts_nil) (fun _ _ _ _ _ => by exact (pe_callB call_abs (by rfl) T.z_abs (by decide +kernel) (pa_cons (pv 6) pa_nil))))) pa_nil)) (pe_op op_pow pe_int pe_int) (nomark _))))) (pss_one (ps_set (i := 5) sc__law_back_holds.nd rfl (by first | exact Or.inl rfl | exact Or.inr rfl) (pe_callS (ok__law_due T) (hr.mono (by decide)) (by rfl) T.g__law_due T.F__law_due.kp (b__law_due T) (fun σ => passAt tk σ) (pa_cons (pv 2) (pa_cons (pv 4) pa_nil))))) pss_nil)
      (pss_one (ps_if (pt_cmpR (op_neD hr.units) (pe_callS (ok__law_told T) (hr.mono (by decide)) (by rfl) T.g__law_told T.F__law_told.kp (b__law_told T) (fun σ => passAt tk σ) (pa_cons (pv 2) (pa_cons (pv 4) pa_nil))) (pv 5) (nomark _)) (pss_one (ps_ret pe_bl)) pss_nil))))) pss_nil))))
      (pss_one (ps_ret pe_bl))), ?_⟩
  have hl : a.length ≤ 900 := hd
  let W0 : WX := fun cls d _ H => E cls d H
  let rd : PV := lv K (a.map .int)
  let q : Kn := [some rd, none, none, none, none, none, none]
  have p40 : ∀ ps : Kn, JD K T.M W0 (tOp (rI CPow fun i j => .int (i ^ j.toNat)) (tC (.int 10)) (tC (.int 40))) ps (.int M40) := fun ps => je_is (je_pow je_int je_int ⟨by decide, by decide, by decide⟩) (congrArg PyData.int (by decide))
  have two : ∀ (ps : Kn) (x y : Str), JD K T.M W0 (tTup (tCons (tC (.str x)) (tCons (tC (.str y)) tNil))) ps (.tuple [.str x, .str y]) := fun ps x y => je_tup (ds := [.str x, .str y]) (ja_cons je_str (ja_cons je_str ja_nil))
  refine fin_ok (r := .rt (dv K (.bool true))) (js_seq (qs := q) (js_allL (vs := [1, 2]) prs encP (ji_tup (je_tup (ds := prs.map encP) (ja_cons (two _ _ _) (ja_cons (two _ _ _) (ja_cons (two _ _ _) ja_nil))))) fun p hp => ⟨_, jg_tup (ds := [.str (nmS p.1), .str (nmS p.2)]) (jgs_cons jg_name (jgs_cons jg_name jgs_nil)), ?_⟩) (js_ret je_bl)) (by exact rfl) fh al th
  let d3 : PV := dv K (dueD (dueE p.1 a))
  let q3 : Kn := [some rd, some (dv K (.str (nmS p.1))), some (dv K (.str (nmS p.2))), some d3, none, none, none]
  have st1 : JS K T.M W0 (tAsg (tCallS (Prm K T.M (args__law_told T) dom__law_told (out__law_told T)) (WE W0) (tCons (tVar 1) (tCons (tCB (rListS K) (tCons (tVar 0) tNil)) tNil))) (gName 3)) [some rd, some (dv K (.str (nmS p.1))), some (dv K (.str (nmS p.2))), none, none, none, none] (.nx q3) := js_set (i := 3) (P := d3) (je_call (args := args__law_told T) (dom := dom__law_told) (out := out__law_told T) (p.1, true, a) (ja_cons (je_var (i := 1) rfl) (ja_cons (jn_told (jn_listL (M := T.M) (W := W0) (je_lvd (je_var (i := 0) rfl)))) ja_nil)) (by show a.length ≤ 1000; omega))
  refine js_weak (qs := [some rd, none, none, none, none, none, none]) (js_seq (qs := q3) st1 ?_) ⟨.inr rfl, .inr rfl, .inr rfl, .inr rfl, .inr rfl, .inr rfl, .inr rfl, trivial⟩
  cases h1 : dueE p.1 a with
  | error e =>
    have e3 : d3 = dv K (raisedD e) := by
      show dv K (dueD (dueE p.1 a)) = _
      rw [h1]
      rfl
    refine js_weak (js_if (b := false) (jt_is (jt_test (je_eqS (x := "raised") (y := "list") (je_ixT (ds := [.str "raised", .str (nmE e.c), e.val, .bool true]) (je_var (i := 3) (by rw [show q3[3]? = some (some d3) from rfl, e3]; rfl)) je_int rfl) je_str)) (by decide)) (fun z => Bool.noConfusion z) (fun _ => js_next)) ⟨.inr rfl, .inl rfl, .inl rfl, .inl rfl, .inr rfl, .inr rfl, .inr rfl, trivial⟩
  | ok r =>
    have rl := due_len h1
    let dl : List PyData := [.str "list", .str "", .tuple (r.map .int), .bool true]
    have e3 : d3 = dv K (.tuple dl) := by
      show dv K (dueD (dueE p.1 a)) = _
      rw [h1]
      rfl
    obtain ⟨m, m1, m2⟩ := max_ex (r.map absI) 0
    let nd1 : Option PV := some (dv K (.str (nmS p.1)))
    let nd2 : Option PV := some (dv K (.str (nmS p.2)))
    let q4 : Kn := [some rd, nd1, nd2, some d3, some (lv K (r.map .int)), none, none]
    let q5 : Kn := [some rd, nd1, nd2, some d3, some (lv K (r.map .int)), some (dv K (.tuple [.str "list", .str "", .tuple (a.map .int), .bool true])), none]
    let q6 : Kn := [some rd, nd1, nd2, some d3, some (lv K (r.map .int)), some (dv K (dueD (dueE p.2 r))), none]
    let big : Bool := decide (64 < (r.length : Int)) || decide (M40 < m)
    have v3 : JD K T.M W0 (tVar 3) q3 (.tuple dl) := je_var (i := 3) (by rw [show q3[3]? = some (some d3) from rfl, e3])
    have tbig : JT K T.M W0 (tOr (tTest (tOp (rI0 fun i j => .bl (decide (j < i))) (tCB (rLenS K) (tCons (tVar 4) tNil)) (tC (.int 64)))) (tTest (tOp (rI0 fun i j => .bl (decide (j < i))) (tCB (rMax K) (tCons (tOp rCat (tLst (tCons (tC (.int 0)) tNil)) (tLc (iList K (tVar 4)) (gName 6) tYes (tCB rAbs (tCons (tVar 6) tNil)) [6])) tNil)) (tOp (rI CPow fun i j => .int (i ^ j.toNat)) (tC (.int 10)) (tC (.int 40)))))) q5 big :=
      jt_or (jt_test (je_gt (je_is (je_lenL (je_lvd (je_var (i := 4) rfl))) (by rw [List.length_map])) je_int)) (fun _ => jt_test (je_gt (je_maxI (ns := 0 :: r.map absI) (je_is (je_lvd (je_catV (ds := [.int 0]) (es := (r.map absI).map .int) (je_lstV (ds := [.int 0]) (ja_cons je_int ja_nil)) (jn_lv (jn_is (jn_lc (M := T.M) (W := W0) (W' := fun _ _ _ _ => False) (vs := [6]) r .int (fun _ => true) (fun x => .int (absI x)) (ji_list (je_lvd (je_var (i := 4) rfl))) (by omega) fun x _ => ⟨_, jg_name, jt_yes, fun _ => je_abs (je_var (i := 6) rfl)⟩) (by rw [filter_yes, List.map_map]; rfl))) (by simp; omega))) rfl) m1 m2) (p40 _)))
    refine js_weak (qs := [some rd, nd1, nd2, none, none, none, none]) (js_if (b := true) (jt_is (jt_test (je_eqS (x := "list") (y := "list") (je_ixT v3 je_int rfl) je_str)) (by decide)) (fun _ => ?_) (fun z => Bool.noConfusion z)) ⟨.inr rfl, .inl rfl, .inl rfl, .inr rfl, .inr rfl, .inr rfl, .inr rfl, trivial⟩
    refine js_weak (qs := q6) (js_seq (qs := q4) (js_set (i := 4) (P := lv K (r.map .int)) (jn_lv (jn_listT (M := T.M) (W := W0) (je_ixT v3 je_int rfl))))
      (js_seq (qs := q5) (js_set (i := 5) (je_tup (ds := [.str "list", .str "", .tuple (a.map .int), .bool true]) (ja_cons je_str (ja_cons je_str (ja_cons (je_tupL (je_lvd (je_var (i := 0) rfl))) (ja_cons je_bl ja_nil))))))
      (js_seq (qs := q6) (js_if (b := big) tbig (fun _ => js_set (i := 5) (P := dv K (dueD (dueE p.2 r))) (je_call (args := args__law_due T) (dom := dom__law_due) (out := out__law_due T) (p.2, r) (ja_cons (je_var (i := 2) rfl) (ja_cons (je_var (i := 4) rfl) ja_nil)) (by show r.length ≤ 1000; omega))) (fun z => ?same))
      (js_if (b := false) (jt_test (je_neR (je_call (args := args__law_told T) (dom := dom__law_told) (out := out__law_told T) (p.2, true, r) (ja_cons (je_var (i := 2) rfl) (ja_cons (je_lvd (je_var (i := 4) rfl)) ja_nil)) (by show r.length ≤ 1000; omega)) (je_var (i := 5) rfl) (okn_due p.2 r))) (fun z => Bool.noConfusion z) (fun _ => js_next))))) ⟨.inr rfl, .inr rfl, .inr rfl, .inl rfl, .inl rfl, .inl rfl, .inr rfl, trivial⟩
    case same =>
      have z2 : big = false := z
      have z3 : ¬ 64 < (r.length : Int) ∧ ¬ M40 < m := by
        rcases Bool.or_eq_false_iff.mp z2 with ⟨a1, a2⟩
        exact ⟨of_decide_eq_false a1, of_decide_eq_false a2⟩
      have k := back_ok hp h1 (by omega) fun x hx => by
        have := m2 (absI x) (List.mem_cons_of_mem _ (List.mem_map.mpr ⟨x, hx, rfl⟩))
        omega
      have e56 : q6 = q5 := by
        show [some rd, nd1, nd2, some d3, some (lv K (r.map .int)), some (dv K (dueD (dueE p.2 r))), none] = _
        rw [k]
        rfl
      rw [e56]
      exact js_next
end K02

namespace K02
open PySem PySem.Spec PyProof.Rows L2 Evl EB PySem.W
/-! ### Pascal's triangle -/
def pasR (n : Nat) : List Int := (List.range (n + 1)).map fun k => KM.ch n k
theorem pasR_len (n : Nat) : (pasR n).length = n + 1 := by
  unfold pasR
  rw [List.length_map, List.length_range]
theorem pasR_get {n k : Nat} (h : k ≤ n) : (pasR n).getD k 0 = KM.ch n k := by
  rw [getD_at (by rw [pasR_len]; omega)]
  unfold pasR
  rw [List.getElem_map, List.getElem_range]
theorem ch_diag : ∀ n : Nat, KM.ch n n = 1
  | 0 => rfl
  | n + 1 => by
    show KM.ch n n + KM.ch n (n + 1) = 1
    rw [ch_diag n, KM.ch_above n (n + 1) (by omega)]
    rfl
theorem ch_zero (n : Nat) : KM.ch n 0 = 1 := by cases n <;> rfl
theorem pasR_succ (k : Nat) : [1] ++ ((List.range k).map fun j => (pasR k).getD j 0 + (pasR k).getD (j + 1) 0) ++ [1] = pasR (k + 1) := by
  refine ext_getD (by rw [pasR_len]; simp) fun i hi => ?_
  have hi2 : i < k + 2 := by
    have : ([1] ++ ((List.range k).map fun j => (pasR k).getD j 0 + (pasR k).getD (j + 1) 0) ++ [1]).length = k + 2 := by simp
    omega
  rw [pasR_get (by omega)]
  cases i with
  | zero =>
    rw [ch_zero]
    rfl
  | succ j =>
    show (1 :: (((List.range k).map fun j => (pasR k).getD j 0 + (pasR k).getD (j + 1) 0) ++ [1])).getD (j + 1) 0 = _
    rw [KM.getD_cons_succ]
    by_cases hj : j < k
    · rw [getD_at (by simp; omega), List.getElem_append_left (by simp; omega), List.getElem_map, List.getElem_range, pasR_get (by omega), pasR_get (by omega)]
      rfl
    · have : j = k := by omega
      subst this
      rw [getD_at (by simp), List.getElem_append_right (by simp)]
      simp [ch_diag]
def args__law_pascal {K : PySem.W.Frag} {mg : Str → Option Value} (T : Tx K mg) : Nat → List PV := fun a => [dv K (.int (a : Int))]
def dom__law_pascal : Nat → Prop := fun a => a ≤ 60
def out__law_pascal {K : PySem.W.Frag} {mg : Str → Option Value} (T : Tx K mg) : Nat → Out := fun a => .ok (lv K ((pasR a).map .int))
theorem ok__law_pascal {P : Program} {w : World} {K : PySem.W.Frag} {mg : Str → Option Value} {base : Heap} (T : Tx K mg) : FnOk P w K mg base (L2.CX P w) 1 T.a__law_pascal T.fd__law_pascal ["n"] (Prm K T.M (args__law_pascal T) dom__law_pascal (out__law_pascal T)) := by
  refine T.F__law_pascal.okX sc__law_pascal (fun vs H Q E h => by obtain ⟨a, F, _, al, _⟩ := h; exact al.length) (fun cdv A outer s H vs Q E hr h => ?_)
  have tk : Takes (cxOf (L2.CX P w) P w K mg base N__law_pascal "_law_pascal" (defScope s__law_pascal) T.a__law_pascal cdv A outer s H E) (fun cls d _ H => E cls d H) := takes_of rfl rfl rfl rfl
  obtain ⟨a, F, fh, al, hd, th⟩ := h
  refine ⟨_, (pss_cons (ps_set (i := 1) sc__law_pascal.nd rfl (by first | exact Or.inl rfl | exact Or.inr rfl) (pe_lst (pa_cons pe_int pa_nil)))
      (pss_cons (ps_for (passes_of rfl) rfl (pi_range1 (by rfl) T.z_range (pa_cons (pv 0) pa_nil)) (pg_name (i := 2) sc__law_pascal.nd rfl (by first | exact Or.inl rfl | exact Or.inr rfl)) (pss_one (ps_set (i := 1) sc__law_pascal.nd rfl (by first | exact Or.inl rfl | exact Or.inr rfl) (pe_op op_cat (pe_op op_cat (pe_lst (pa_cons pe_int pa_nil)) (pe_lc (own := [("j", 3)]) (g := (gName 3)) (tt := tYes) (te := (tOp (rI0 fun i j => .int (i + j)) (tOp (rIxL K) (tVar 1) (tVar 3)) (tOp (rIxL K) (tVar 1) (tOp (rI0 fun i j => .int (i + j)) (tVar 3) (tC (.int 1)))))) rfl sc__law_pascal.nd (pi_range1 (by rfl) T.z_range (pa_cons (pv 2) pa_nil)) (blkOk_by (N := N__law_pascal) (sc := defScope s__law_pascal) (own := [("j", 3)]) (by decide +kernel)) (fun _ _ _ _ _ => (pg_name (i := 3) sc__law_pascal.nd rfl (by first | exact Or.inl rfl | exact Or.inr rfl))) (fun _ _ _ _ _ => by exact pts_nil) (fun _ _ _ _ _ => by exact (pe_op op_add (pe_ix ix_list (pv 1) (pv 3) (fun _ _ => rfl)) (pe_ix ix_list (pv 1) (pe_op op_add (pv 3) pe_int) (fun _ _ => rfl)))))) (pe_lst (pa_cons pe_int pa_nil))))))
      (pss_one (ps_ret (pv 1))))), ?_⟩
  have hn : a ≤ 60 := hd
  let W0 : WX := fun cls d _ H => E cls d H
  let f : Nat → Kn := fun k => [some (dv K (.int (a : Int))), some (lv K ((pasR k).map .int)), none, none]
  have one : ∀ ps : Kn, JV K T.M W0 (tLst (tCons (tC (.int 1)) tNil)) ps (lv K [.int 1]) := fun ps => je_lstV (ds := [.int 1]) (ja_cons je_int ja_nil)
  have ho : out__law_pascal T a = .ok (lv K ((pasR a).map .int)) := rfl
  rw [ho] at th
  refine fin_ok (r := .rt (lv K ((pasR a).map .int))) (js_seq (qs := f 0) (js_set (i := 1) (P := lv K [.int 1]) (one _)) (js_seq (qs := f a) (js_for (M := T.M) (W := W0) (vs := [2]) f a (ji_uptoN (n := a) (je_var (i := 0) rfl) (by omega)) rfl (by rw [List.length_map, List.length_range]; exact Nat.le_refl _) (fun k d hk hd => ?_) (.inl ⟨by rw [List.length_map, List.length_range], rfl⟩)) (js_ret (je_var (i := 1) rfl)))) (by exact rfl) fh al th
  obtain ⟨hlt, rfl⟩ := rngI_at hd
  let g : Kn := [some (dv K (.int (a : Int))), some (lv K ((pasR k).map .int)), some (dv K (.int (k : Int))), none]
  refine ⟨g, jg_name, .inl (js_weak (js_set (i := 1) (P := lv K ((pasR (k + 1)).map .int)) ?_) ⟨.inr rfl, .inr rfl, .inl rfl, .inr rfl, trivial⟩)⟩
  rw [← pasR_succ, List.map_append, List.map_append]
  refine je_catV (je_catV (one _) (jn_lv (jn_is (jn_lc (M := T.M) (W := W0) (W' := fun _ _ _ _ => False) (vs := [3]) (List.range k) (fun (j : Nat) => .int (j : Int)) (fun _ => true) (fun j => .int ((pasR k).getD j 0 + (pasR k).getD (j + 1) 0)) (ji_uptoN (n := k) (je_var (i := 2) rfl) (by omega)) (by rw [List.length_range]; omega) fun j hj => ⟨_, jg_name, jt_yes, fun _ => ?_⟩) (by rw [filter_yes, List.map_map]; rfl))) (by simp; omega)) (one _) (by simp; omega)
  have j2 := List.mem_range.mp hj
  have pl := pasR_len k
  exact je_add (je_ixL (je_lvd (je_var (i := 1) rfl)) (je_var (i := 3) rfl) (at_getD (by omega))) (je_ixL (je_lvd (je_var (i := 1) rfl)) (je_add (je_var (i := 3) rfl) je_int) (at_getD (row := pasR k) (m := j + 1) (by omega)))
/-! ### chosen -/
def numD (v : Int) : PyData := .tuple [.str "number", .str "", .int v, .bool true]
def chD (n k : Int) : PyData := match chE n k with
  | .error e => raisedD e
  | .ok v => numD v
theorem chE_c {n k : Int} {e : Er} (h : chE n k = .error e) : ∃ v, e = ⟨.TooFar, .int v⟩ := by
  unfold chE at h
  cases h1 : inR 0 n 60 with
  | false => rw [h1] at h; cases h; exact ⟨_, rfl⟩
  | true =>
    rw [h1] at h
    cases h2 : inR (-60) k 60 with
    | false => rw [h2] at h; cases h; exact ⟨_, rfl⟩
    | true => rw [h2] at h; cases h
theorem ok_chD (n k : Int) : Ok (chD n k) 2 := by
  unfold chD
  cases h : chE n k with
  | ok v => exact ok_four (n := 1) (ok_str (by decide +kernel)) (ok_str (by decide +kernel)) ok_int ok_bl
  | error e =>
    obtain ⟨v, rfl⟩ := chE_c h
    exact ok_rsd (show PyData.strOk (nmE .TooFar) = true by decide +kernel) ok_int
def args__law_chosen {K : PySem.W.Frag} {mg : Str → Option Value} (T : Tx K mg) : Int × Int → List PV := fun a => [dv K (.int a.1), dv K (.int a.2)]
def dom__law_chosen : Int × Int → Prop := fun _ => True
def out__law_chosen {K : PySem.W.Frag} {mg : Str → Option Value} (T : Tx K mg) : Int × Int → Out := fun a => .ok (dv K (chD a.1 a.2))
abbrev tbC {K : PySem.W.Frag} {mg : Str → Option Value} (T : Tx K mg) : WX → TS := fun W => tAsg (tCallS (Prm K T.M (args_choose T) dom_choose (out_choose T)) (WE W) (tCons (tVar 0) (tCons (tVar 1) tNil))) (gName 2)
theorem ok__law_chosen {P : Program} {w : World} {K : PySem.W.Frag} {mg : Str → Option Value} {base : Heap} (T : Tx K mg) : FnOk P w K mg base (L2.CX P w) 5 T.a__law_chosen T.fd__law_chosen ["n", "k"] (Prm K T.M (args__law_chosen T) dom__law_chosen (out__law_chosen T)) := by
  refine T.F__law_chosen.okX sc__law_chosen (fun vs H Q E h => by obtain ⟨a, F, _, al, _⟩ := h; exact al.length) (fun cdv A outer s H vs Q E hr h => ?_)
  have tk : Takes (cxOf (L2.CX P w) P w K mg base N__law_chosen "_law_chosen" (defScope s__law_chosen) T.a__law_chosen cdv A outer s H E) (fun cls d _ H => E cls d H) := takes_of rfl rfl rfl rfl
  obtain ⟨a, F, fh, al, hd, th⟩ := h
  refine ⟨_, (pss_cons (ps_try_named (tb := fun W => _) rfl rfl sc__law_chosen.nd tk (fun W pn xe tkb pob => (pss_one (ps_set (i := 2) sc__law_chosen.nd rfl (by first | exact Or.inl rfl | exact Or.inr rfl) (pe_callS (ok_choose T) (hr.mono (by decide)) (by rfl) T.g_choose T.F_choose.kp (b_choose T) (fun σ => passAt tkb σ) (pa_cons (pv 0) (pa_cons (pv 1) pa_nil)))))) (Clauses.cons (c := .ref T.a_TooFar) (i := 3) ⟨rfl, by decide, .inl T.g_TooFar⟩ rfl rfl (fun a ob cls d pn hz hf => (pss_cons (ps_set (i := 4) sc__law_chosen.nd rfl (by first | exact Or.inl rfl | exact Or.inr rfl) (pe_and (pe_callB (call_isEx hz hf) (by rfl) T.z_isinstance PyProof.Rows.boot_isinstance (pa_cons (pv 3) (pa_cons (pe_glob (v := .ref T.a_BowlError) (by rfl) T.g_BowlError rfl) pa_nil))) (pe_one (pe_callB (call_isEx hz hf) (by rfl) T.z_isinstance PyProof.Rows.boot_isinstance (pa_cons (pv 3) (pa_cons (pe_bltn (v := .ty "ValueError") (by rfl) T.z_ValueError PyProof.Rows.Boot.«ValueError» rfl) pa_nil))))))
      (pss_one (ps_ret (pe_tup (pa_cons pe_str (pa_cons pe_str (pa_cons (pe_xf (T.X_TooFar).xf (T.X_TooFar).nf hz hf (pv 3)) (pa_cons (pe_and (pv 4) (pe_one (pe_not (pe_callB (call_isExT hz hf) (by rfl) T.z_isinstance PyProof.Rows.boot_isinstance (pa_cons (pv 3) (pa_cons (pe_tup (pa_cons (pe_glob (v := .ref T.a_NoSize) (by rfl) T.g_NoSize rfl) (pa_cons (pe_glob (v := .ref T.a_WrongCount) (by rfl) T.g_WrongCount rfl) pa_nil))) pa_nil)))))) pa_nil))))))))) Clauses.nil))
      (pss_one (ps_ret (pe_tup (pa_cons pe_str (pa_cons pe_str (pa_cons (pv 2) (pa_cons (pe_callS (ok__law_whole T) (hr.mono (by decide)) (by rfl) T.g__law_whole T.F__law_whole.kp (b__law_whole T) (fun σ => passAt tk σ) (pa_cons (pv 2) pa_nil)) pa_nil)))))))), ?_⟩
  obtain ⟨n, k⟩ := a
  let W0 : WX := fun cls d _ H => E cls d H
  let e0 := entry N__law_chosen (args__law_chosen T (n, k))
  have ho : out__law_chosen T (n, k) = .ok (dv K (chD n k)) := rfl
  rw [ho] at th
  unfold chD at th
  have hb : ∀ W' : WX, JS K T.M W' (tbC T W') e0 (asgR e0 2 (outI K (chE n k))) := fun W' => js_setO (je_call (args := args_choose T) (dom := dom_choose) (out := out_choose T) (n, k) (ja_cons (je_var (i := 0) rfl) (ja_cons (je_var (i := 1) rfl) ja_nil)) trivial)
  cases h : chE n k with
  | error e =>
    rw [h] at hb th
    obtain ⟨v, rfl⟩ := chE_c h
    exact fin_ok (r := .rt (dv K (raisedD ⟨.TooFar, .int v⟩))) (js_rt (js_try_er (tb := tbC T) hb (.inl ⟨T.x_TooFar_TooFar, suite_std (c := .TooFar) (show 3 < 5 by decide) (show 4 < 5 by decide) (by decide) T.X_TooFar.ek T.k_TooFar_BowlError T.k_TooFar_ValueError T.k_TooFar_NoSize_WrongCount⟩))) (by exact rfl) fh al th
  | ok v =>
    rw [h] at hb th
    exact fin_ok (r := .rt (dv K (numD v))) (js_seq (js_try_ok (tb := tbC T) (r := .nx (e0.set 2 (some (dv K (.int v))))) hb (fun _ q => nomatch q)) (js_ret (je_tup (ds := [.str "number", .str "", .int v, .bool true]) (ja_cons je_str (ja_cons je_str (ja_cons (je_var (i := 2) rfl) (ja_cons (je_call (args := args__law_whole T) (dom := dom__law_whole) (out := out__law_whole T) v (ja_cons (je_var (i := 2) rfl) ja_nil) trivial) ja_nil))))))) (by exact rfl) fh al th
def args__law_choice_holds {K : PySem.W.Frag} {mg : Str → Option Value} (T : Tx K mg) : Int × Int → List PV := fun a => [dv K (.int a.1), dv K (.int a.2)]
def dom__law_choice_holds : Int × Int → Prop := fun _ => True
def out__law_choice_holds {K : PySem.W.Frag} {mg : Str → Option Value} (T : Tx K mg) : Int × Int → Out := fun a => .ok (dv K (.bool true))
theorem ok__law_choice_holds {P : Program} {w : World} {K : PySem.W.Frag} {mg : Str → Option Value} {base : Heap} (T : Tx K mg) : FnOk P w K mg base (L2.CX P w) 6 T.a__law_choice_holds T.fd__law_choice_holds ["n", "k"] (Prm K T.M (args__law_choice_holds T) dom__law_choice_holds (out__law_choice_holds T)) := by
  refine T.F__law_choice_holds.okX sc__law_choice_holds (fun vs H Q E h => by obtain ⟨a, F, _, al, _⟩ := h; exact al.length) (fun cdv A outer s H vs Q E hr h => ?_)
  have tk : Takes (cxOf (L2.CX P w) P w K mg base N__law_choice_holds "_law_choice_holds" (defScope s__law_choice_holds) T.a__law_choice_holds cdv A outer s H E) (fun cls d _ H => E cls d H) := takes_of rfl rfl rfl rfl
  obtain ⟨a, F, fh, al, hd, th⟩ := h
  refine ⟨_, (pss_cons (ps_if (PW.pt (pw_or (pt_cmpR op_lt (pv 0) pe_int (nomark _)) (pw_or1 (pt_cmpR op_gt (pv 0) pe_int (nomark _))))) (pss_one (ps_set (i := 2) sc__law_choice_holds.nd rfl (by first | exact Or.inl rfl | exact Or.inr rfl) (pe_tup (pa_cons pe_str (pa_cons pe_str (pa_cons (pv 0) (pa_cons pe_bl pa_nil))))))) (pss_one (ps_if (PW.pt (pw_or (pt_cmpR op_lt (pv 1) (pe_un un_neg pe_int) (nomark _)) (pw_or1 (pt_cmpR op_gt (pv 1) pe_int (nomark _))))) (pss_one (ps_set (i := 2) sc__law_choice_holds.nd rfl (by first | exact Or.inl rfl | exact Or.inr rfl) (pe_tup (pa_cons pe_str (pa_cons pe_str (pa_cons (pv 1) (pa_cons pe_bl pa_nil))))))) (pss_one (ps_if (PW.pt (pw_or (pt_cmpR op_lt (pv 1) pe_int (nomark _)) (pw_or1 (pt_cmpR op_gt (pv 1) (pv 0) (nomark _))))) (pss_one (ps_set (i := 2) sc__law_choice_holds.nd rfl (by first | exact Or.inl rfl | exact Or.inr rfl) (pe_tup (pa_cons pe_str (pa_cons pe_str (pa_cons pe_int (pa_cons pe_bl pa_nil))))))) (pss_one (ps_set (i := 2) sc__law_choice_holds.nd rfl (by first | exact Or.inl rfl | exact Or.inr rfl) (pe_tup (pa_cons pe_str (pa_cons pe_str (pa_cons (pe_ix ix_list (pe_callS (ok__law_pascal T) (hr.mono (by decide)) (by rfl) T.g__law_pascal T.F__law_pascal.kp (b__law_pascal T) (fun σ => passAt tk σ) (pa_cons (pv 0) pa_nil)) (pv 1) (fun _ _ => rfl)) (pa_cons pe_bl pa_nil))))))))))))
      (pss_one (ps_ret (pe_and (pe_cmpR (op_eqD hr.units) (pe_callS (ok__law_chosen T) (hr.mono (by decide)) (by rfl) T.g__law_chosen T.F__law_chosen.kp (b__law_chosen T) (fun σ => passAt tk σ) (pa_cons (pv 0) (pa_cons (pv 1) pa_nil))) (pv 2) (nomark _)) (pe_one (pe_cmpR (op_eqD hr.units) (pe_callS (ok__law_chosen T) (hr.mono (by decide)) (by rfl) T.g__law_chosen T.F__law_chosen.kp (b__law_chosen T) (fun σ => passAt tk σ) (pa_cons (pv 0) (pa_cons (pv 1) pa_nil))) (pv 2) (nomark _))))))), ?_⟩
  obtain ⟨n, k⟩ := a
  let W0 : WX := fun cls d _ H => E cls d H
  let e0 := entry N__law_choice_holds (args__law_choice_holds T (n, k))
  let q : Kn := [some (dv K (.int n)), some (dv K (.int k)), some (dv K (chD n k))]
  have cal : JD K T.M W0 (tCallS (Prm K T.M (args__law_chosen T) dom__law_chosen (out__law_chosen T)) (WE W0) (tCons (tVar 0) (tCons (tVar 1) tNil))) q (chD n k) := je_call (args := args__law_chosen T) (dom := dom__law_chosen) (out := out__law_chosen T) (n, k) (ja_cons (je_var (i := 0) rfl) (ja_cons (je_var (i := 1) rfl) ja_nil)) trivial
  have far : ∀ (i : Nat) (v : Int), e0[i]? = some (some (dv K (.int v))) → JD K T.M W0 (tTup (tCons (tC (.str "raised")) (tCons (tC (.str "TooFar")) (tCons (tVar i) (tCons (tC (.bl true)) tNil))))) e0 (raisedD ⟨.TooFar, .int v⟩) := fun i v h => je_tup (ds := [.str "raised", .str "TooFar", .int v, .bool true]) (ja_cons je_str (ja_cons je_str (ja_cons (je_var (i := i) h) (ja_cons je_bl ja_nil))))
  have num : ∀ (te : TE) (v : Int), JD K T.M W0 te e0 (.int v) → JD K T.M W0 (tTup (tCons (tC (.str "number")) (tCons (tC (.str "")) (tCons te (tCons (tC (.bl true)) tNil))))) e0 (numD v) := fun te v h => je_tup (ds := [.str "number", .str "", .int v, .bool true]) (ja_cons je_str (ja_cons je_str (ja_cons h (ja_cons je_bl ja_nil))))
  refine fin_ok (r := .rt (dv K (.bool true))) (js_seq (qs := q) (js_if (b := decide (n < 0) || decide (60 < n)) (jt_or (jt_test (je_lt (je_var (i := 0) rfl) je_int)) (fun _ => jt_test (je_gt (je_var (i := 0) rfl) je_int))) (fun z => ?g1) (fun z => js_if (b := decide (k < -60) || decide (60 < k)) (jt_or (jt_test (je_lt (je_var (i := 1) rfl) (je_neg je_int))) (fun _ => jt_test (je_gt (je_var (i := 1) rfl) je_int))) (fun z2 => ?g2) (fun z2 => js_if (b := decide (k < 0) || decide (n < k)) (jt_or (jt_test (je_lt (je_var (i := 1) rfl) je_int)) (fun _ => jt_test (je_gt (je_var (i := 1) rfl) (je_var (i := 0) rfl)))) (fun z3 => ?g3) (fun z3 => ?g4)))) (js_ret (je_andV (a := true) (b := true) (je_eqR cal (je_var (i := 2) rfl) (ok_chD n k)) (fun _ => je_eqR cal (je_var (i := 2) rfl) (ok_chD n k))))) (by exact rfl) fh al th
  case g1 =>
    have e : chD n k = raisedD ⟨.TooFar, .int n⟩ := by
      have : inR 0 n 60 = false := by
        unfold inR
        rcases Bool.or_eq_true_iff.mp z with a | a
        · have := of_decide_eq_true a
          rw [decide_eq_false (show ¬ 0 ≤ n by omega)]
          rfl
        · have := of_decide_eq_true a
          rw [decide_eq_false (show ¬ n ≤ 60 by omega), Bool.and_false]
      unfold chD chE
      rw [this]
    have := js_set (i := 2) (far 0 n rfl)
    rw [← e] at this
    exact this
  all_goals
    have zn : ¬ n < 0 ∧ ¬ 60 < n := by
      rcases Bool.or_eq_false_iff.mp z with ⟨a1, a2⟩
      exact ⟨of_decide_eq_false a1, of_decide_eq_false a2⟩
    have n1 : inR 0 n 60 = true := inR_of (by omega) (by omega)
  case g2 =>
    have e : chD n k = raisedD ⟨.TooFar, .int k⟩ := by
      have : inR (-60) k 60 = false := by
        unfold inR
        rcases Bool.or_eq_true_iff.mp z2 with a | a
        · have := of_decide_eq_true a
          rw [decide_eq_false (show ¬ -60 ≤ k by omega)]
          rfl
        · have := of_decide_eq_true a
          rw [decide_eq_false (show ¬ k ≤ 60 by omega), Bool.and_false]
      unfold chD chE
      rw [n1, this]
    have := js_set (i := 2) (far 1 k rfl)
    rw [← e] at this
    exact this
  all_goals
    have zk : ¬ k < -60 ∧ ¬ 60 < k := by
      rcases Bool.or_eq_false_iff.mp z2 with ⟨a1, a2⟩
      exact ⟨of_decide_eq_false a1, of_decide_eq_false a2⟩
    have k1 : inR (-60) k 60 = true := inR_of (by omega) (by omega)
    have e0_ : chD n k = numD (if 0 ≤ k then mcComb n k else 0) := by
      unfold chD chE
      rw [n1, k1]
  case g3 =>
    have e : chD n k = numD 0 := by
      rw [e0_]
      congr 1
      rcases Bool.or_eq_true_iff.mp z3 with a | a
      · have := of_decide_eq_true a
        rw [if_neg (by omega)]
      · have := of_decide_eq_true a
        rw [if_pos (by omega), mcComb_above (by omega)]
    have := js_set (i := 2) (num _ 0 je_int)
    rw [← e] at this
    exact this
  case g4 =>
    have z4 : ¬ k < 0 ∧ ¬ n < k := by
      rcases Bool.or_eq_false_iff.mp z3 with ⟨a1, a2⟩
      exact ⟨of_decide_eq_false a1, of_decide_eq_false a2⟩
    have en : ((n.toNat : Nat) : Int) = n := Int.toNat_of_nonneg (by omega)
    have ek : ((k.toNat : Nat) : Int) = k := Int.toNat_of_nonneg (by omega)
    have ec : mcComb n k = (pasR n.toNat).getD k.toNat 0 := by
      rw [pasR_get (by omega), ← comb_ch n.toNat (by omega) k.toNat (by omega), en, ek]
    have e : chD n k = numD ((pasR n.toNat).getD k.toNat 0) := by
      rw [e0_, if_pos (by omega), ec]
    have := js_set (i := 2) (num _ _ (je_ixL (je_lvd (je_call (K := K) (M := T.M) (W := W0) (ps := e0) (args := args__law_pascal T) (dom := dom__law_pascal) (out := out__law_pascal T) n.toNat (ja_cons (je_is (je_var (i := 0) rfl) (congrArg PyData.int en.symm)) ja_nil) (by show n.toNat ≤ 60; omega))) (je_is (je_var (i := 1) rfl) (congrArg PyData.int ek.symm)) (at_getD (by rw [pasR_len]; omega))))
    rw [← e] at this
    exact this
end K02

namespace K02
open PySem PySem.Spec PyProof.Rows L2 Evl EB PySem.W
section
variable {K : PySem.W.Frag} {M : EC → Addr} {W : WX} {ps qs : Kn} {te : TE}
theorem je_isTp {ds : List PyData} {T : String} {b : Bool} (h : JD K M W te ps (.tuple ds)) (hT : kitB "tuple" T = some b) : JD K M W (tCB (rIsi K) (tCons te (tCons (tC (.ty T)) tNil))) ps (.bool b) := je_cb (ja_cons h (ja_cons je_x ja_nil)) fun vs F H fh a Q k => by
  obtain ⟨v, u, rfl, p, q⟩ := allP2 a
  obtain ⟨o, xs, rfl, hs, hd⟩ := dp_tup p
  rw [show u = V.ty T from q]
  have ty : TyX K H (.ref o) (.type "tuple") := by
    rcases ex_t fh hs with (z | ⟨ob, z⟩) | ⟨ob, its, n, z, c, _⟩
    · exact .base (.tup z)
    · exact .fTuple z
    · exact .kTuple z c
  exact ⟨.ref o, .ty T, .type "tuple", .type T, b, rfl, .ty T, ty, kit_ty hT, k _ F H (Gr.refl fh) (.bl b)⟩
/-- xs.extend(e), e a plain list -/
theorem jl_ext {D : Addr} {F1 H1 : Hp} {i : Nat} {ds es : List PyData} (hi : ps[i]? = some (some (xv (.ref D)))) (hD : H1 D = none) (h : JV K M W te ps (lv K es)) (hl : ds.length + es.length ≤ 100000) : JL K M W D F1 H1 (tDrop (tBM K "list" rExtend (tVar i) (tCons te tNil))) ps ds (.nx ps (ds ++ es)) := fun Dn σ F H A S k => by
  obtain ⟨acc0, h0, _⟩ := A.at_
  refine ⟨.ref D, sl_at S hi, (.inl ⟨rfl, acc0, sq_of h0⟩), h.go A.gr.fh S fun v F2 H2 g p => ?_⟩
  have A2 := A.step g
  obtain ⟨acc, h2, hd⟩ := A2.at_
  obtain ⟨b, zs, rfl, hb, hz⟩ := p
  exact ⟨D, b, acc, zs, rfl, rfl, h2, g.fh _ _ hb, sz_of (by rw [dpLength hd, dpLength hz]; exact hl), k σ F2 _ ⟨gr_mut A2.gr hD A2.off, A2.off, _, upd_same, dpApp hd hz⟩ g.ff (S.mono g.ff)⟩
end
/-! ### subset_list, as a plain list -/
def outV_subset_list {K : PySem.W.Frag} {mg : Str → Option Value} (T : Tx K mg) : Nat × Nat → Out := fun a => .ok (lv K ((subsL a.1 a.2).map tupI))
theorem ok_subset_listV {P : Program} {w : World} {K : PySem.W.Frag} {mg : Str → Option Value} {base : Heap} (T : Tx K mg) : FnOk P w K mg base (L2.CX P w) 2 T.a_subset_list T.fd_subset_list ["n", "size"] (Prm K T.M (args_subset_list T) dom_subset_list (outV_subset_list T)) := by
  refine T.F_subset_list.okX sc_subset_list (fun vs H Q E h => by obtain ⟨a, F, _, al, _⟩ := h; exact al.length) (fun cdv A outer s H vs Q E hr h => ?_)
  have tk : Takes (cxOf (L2.CX P w) P w K mg base N_subset_list "subset_list" (defScope s_subset_list) T.a_subset_list cdv A outer s H E) (fun cls d _ H => E cls d H) := takes_of rfl rfl rfl rfl
  obtain ⟨a, F, fh, al, hd, th⟩ := h
  refine ⟨_, (pss_cons (ps_set (i := 2) sc_subset_list.nd rfl (by first | exact Or.inl rfl | exact Or.inr rfl) (pe_lst (pa_cons (pe_tup pa_nil) pa_nil)))
      (pss_cons (ps_for (passes_of rfl) rfl (pi_range1 (by rfl) T.z_range (pa_cons (pv 1) pa_nil)) (pg_name (i := 3) sc_subset_list.nd rfl (by first | exact Or.inl rfl | exact Or.inr rfl)) (pss_one (ps_setLc2 (i := 2) (own := [("part", 4), ("k", 5)]) (g := (gName 4)) (tt := tYes) (te := (tTup (StX.tStar K (tVar 4) (tCons (tVar 5) tNil)))) (wi1 := (iRng2 (tCons (tCallS (Prm K T.M (args_first_behind T) dom_first_behind (out_first_behind T)) (WE fun _ _ _ _ => False) (tCons (tVar 4) tNil)) (tCons (tVar 0) tNil)))) (g1 := (gName 5)) (tt1 := tYes) (vs1 := [5]) rfl sc_subset_list.nd rfl rfl (sw_true rfl rfl rfl (by decide +kernel)) (pi_list (pv 2)) (blkOk_by (N := N_subset_list) (sc := defScope s_subset_list) (own := [("part", 4), ("k", 5)]) (by decide +kernel)) (by decide) (fun _ _ _ _ _ => (pg_name (i := 4) sc_subset_list.nd rfl (by first | exact Or.inl rfl | exact Or.inr rfl))) (fun _ _ _ _ _ => by exact pts_nil) (fun _ _ _ _ _ => by exact (pi_range2 (by rfl) T.z_range (pa_cons (pe_callS (ok_first_behind T) (hr.mono (by decide)) (by rfl) T.g_first_behind T.F_first_behind.kp (b_first_behind T) (fun σ => passAt takes0 σ) (pa_cons (pv 4) pa_nil)) (pa_cons (pv 0) pa_nil)))) (fun _ _ _ _ _ => (pg_name (i := 5) sc_subset_list.nd rfl (by first | exact Or.inl rfl | exact Or.inr rfl))) (fun _ _ _ _ _ => pts_nil) (fun _ _ _ _ _ => by exact (pe_tup (StX.pa_star (pv 4) (pa_cons (pv 5) pa_nil)))))))
      (pss_one (ps_ret (pv 2))))), ?_⟩
  obtain ⟨n, size⟩ := a
  obtain ⟨hn, hs⟩ := hd
  simp only at hn hs
  let W0 : WX := fun cls d _ H => E cls d H
  have ho : outV_subset_list T (n, size) = .ok (lv K ((subsL n size).map tupI)) := rfl
  rw [ho] at th
  let f : Nat → Kn := fun i => [some (dv K (.int n)), some (dv K (.int size)), some (lv K ((subsL n i).map tupI)), none, none, none]
  refine fin_ok (r := .rt (lv K ((subsL n size).map tupI))) (js_seq (qs := f 0) (js_set (M := T.M) (W := W0) (i := 2) (P := lv K ((subsL n 0).map tupI)) (je_lstV (ds := [tupI []]) (ja_cons (je_tup (ds := []) ja_nil) ja_nil))) (js_seq (qs := f size)
    (js_for (vs := [3]) f size (ji_is (ji_rng1 (ja_cons (je_var (i := 1) rfl) ja_nil) ⟨by omega, by omega⟩) (es := (rg 0 size).map PyData.int) (by simp)) rfl (by rw [List.length_map, rg_length]; exact Nat.le_refl _) (fun i d hi hd => ?_) (.inl ⟨by rw [List.length_map, rg_length], rfl⟩))
    (js_ret (je_var (i := 2) rfl)))) (by exact rfl) fh al th
  have hb := subs_small n (by omega) i (by omega)
  have hb2 := subs_small n (by omega) (i + 1) (by omega)
  refine ⟨_, jg_name, .inl (js_weak (js_set (i := 2) (P := lv K ((subsL n (i + 1)).map tupI)) ?_) ⟨.inr rfl, .inr rfl, .inr rfl, .inl rfl, .inr rfl, .inr rfl, trivial⟩)⟩
  rw [← subs_next]
  refine je_lc2V (W' := fun _ _ _ _ => False) (subsL n i) (fun x => rg (fb x) ((n : Int) - fb x).toNat) tupI .int (fun _ _ => true) (fun x k => tupI (x ++ [k])) (ji_list (je_lvd (je_var (i := 2) rfl))) ?_ fun x hx => ?_
  · rw [subs_next, List.length_map]
    omega
  · have hx2 := of_decide_eq_true (List.all_eq_true.mp hb.2 x hx)
    refine ⟨_, jg_name, jt_yes, ji_rng2 (ja_cons (je_call (args := args_first_behind T) (dom := dom_first_behind) (out := out_first_behind T) x (ja_cons (je_var (i := 4) rfl) ja_nil) trivial) (ja_cons (je_var (i := 0) rfl) ja_nil)) ⟨by omega, by omega, by omega, by omega⟩, fun k hk => ⟨_, jg_name, jt_yes, fun _ => ?_⟩⟩
    refine je_tup (ds := (x ++ [k]).map .int) (ja_is (ja_starT (ds := x.map .int) (je_var (i := 4) rfl) (ja_cons (je_var (i := 5) rfl) ja_nil)) ?_) ?_
    · simp
    · have hx3 : x.length = i := subs_len hx
      rw [List.length_map, List.length_append]
      simp
      omega
/-! ### subsets -/
def sbE (n size : Int) : Except Er (List (List Int)) := match inR 0 n 12 with
  | false => .error ⟨.TooFar, .int n⟩
  | true => match inR 0 size n with
    | false => .error ⟨.NoSize, .int size⟩
    | true => .ok (subsL n size.toNat)
def asT : Except Er (List (List Int)) → Except Er (List PyData)
  | .error e => .error e
  | .ok r => .ok (r.map tupI)
def args_subsets {K : PySem.W.Frag} {mg : Str → Option Value} (T : Tx K mg) : Int × Int → List PV := fun a => [dv K (.int a.1), dv K (.int a.2)]
def dom_subsets : Int × Int → Prop := fun _ => True
def out_subsets : Int × Int → Except Er (List PyData) := fun a => asT (sbE a.1 a.2)
theorem gk_subsets {P : Program} {w : World} {K : PySem.W.Frag} {mg : Str → Option Value} {base : Heap} (T : Tx K mg) : GFn P w K mg base 4 T.a_subsets T.fd_subsets ["n", "size"] (PrmG K T.M (args_subsets T) dom_subsets out_subsets) := by
  obtain ⟨oc, od, kV, doc, pm, an, cdv, ct, osl, e, lk, hcd⟩ := T.F_subsets.ex
  rw [e] at lk ⊢
  refine gfn_of lk hcd sc_subsets (fun vs H Q E h => by obtain ⟨a, F, _, al, _⟩ := h; exact al.length) (fun A outer s H vs Q E pn hr h => ?_)
  obtain ⟨a, F, fh, al, hd, th⟩ := h
  refine ⟨_, gss_cons (gs_ps (ps_expr (pe_callS (ok_check_range T) (hr.mono (by decide)) (by rfl) T.g_check_range T.F_check_range.kp (b_check_range T) (fun σ => passAt takes_gcx σ) (pa_cons (pv 0) (pa_cons pe_int (pa_cons pe_int pa_nil))))))
    (gss_cons (gs_ps (ps_expr (pe_callS (ok_check_size T) (hr.mono (by decide)) (by rfl) T.g_check_size T.F_check_size.kp (b_check_size T) (fun σ => passAt takes_gcx σ) (pa_cons (pv 1) (pa_cons pe_int (pa_cons (pv 0) pa_nil))))))
    (gss_cons (gs_yieldFrom (yf_lst (pe_callS (ok_subset_listV T) (hr.mono (by decide)) (by rfl) T.g_subset_list T.F_subset_list.kp (b_subset_list T) (fun σ => passAt takes_gcx σ) (pa_cons (pv 0) (pa_cons (pv 1) pa_nil)))) hr.hd) gss_nil)), ?_⟩
  obtain ⟨n, size⟩ := a
  let W0 : WX := fun cls d _ H => E cls d H
  let e0 := entry N_subsets (args_subsets T (n, size))
  have h1 := rng T (W := W0) (ps := e0) (v := n) (lo := 0) (hi := 12) (je_var (i := 0) rfl) je_int je_int
  have h2 := je_call (K := K) (M := T.M) (W := W0) (ps := e0) (args := args_check_size T) (dom := dom_check_size) (out := out_check_size T) (size, 0, n) (ja_cons (je_var (i := 1) rfl) (ja_cons je_int (ja_cons (je_var (i := 0) rfl) ja_nil))) trivial
  unfold out_check_size at h2
  dsimp only at h2
  unfold out_subsets sbE at th
  dsimp only at th
  cases b1 : inR 0 n 12 with
  | false =>
    rw [b1] at h1 th
    exact h1 _ F H _ fh (Sl.start al) fun d u F' H' g hn hx hp => th d u F' H' g hn hx hp
  | true =>
    rw [b1] at h1 th
    refine h1 _ F H _ fh (Sl.start al) fun _ F1 H1 g1 _ => ?_
    cases b2 : inR 0 size n with
    | false =>
      rw [b2] at h2 th
      exact h2 _ F1 H1 _ g1.fh ((Sl.start al).mono g1.ff) fun d u F' H' g hn hx hp => th d u F' H' (g1.trans g) (fresh_back g1.hh hn) hx hp
    | true =>
      rw [b2] at h2 th
      refine h2 _ F1 H1 _ g1.fh ((Sl.start al).mono g1.ff) fun _ F2 H2 g2 _ => ?_
      unfold inR at b1 b2
      rw [Bool.and_eq_true, decide_eq_true_eq, decide_eq_true_eq] at b1 b2
      have en : ((n.toNat : Nat) : Int) = n := Int.toNat_of_nonneg b1.1
      have es : ((size.toNat : Nat) : Int) = size := Int.toNat_of_nonneg b2.1
      have h3 := je_call (K := K) (M := T.M) (W := W0) (ps := e0) (args := args_subset_list T) (dom := dom_subset_list) (out := outV_subset_list T) (n.toNat, size.toNat) (ja_cons (je_is (je_var (i := 0) rfl) (congrArg PyData.int en.symm)) (ja_cons (je_is (je_var (i := 1) rfl) (congrArg PyData.int es.symm)) ja_nil)) ⟨by show n.toNat ≤ 12; omega, by show size.toNat ≤ 12; omega⟩
      have ho : outV_subset_list T (n.toNat, size.toNat) = .ok (lv K ((subsL n size.toNat).map tupI)) := by
        unfold outV_subset_list
        dsimp only
        rw [en]
      rw [ho] at h3
      have g12 := g1.trans g2
      refine h3 _ F2 H2 _ g2.fh (((Sl.start al).mono g1.ff).mono g2.ff) fun v F3 H3 g3 p => ?_
      obtain ⟨b, xs, rfl, hb, hxs⟩ := p
      have lx := dpLength hxs
      have sm := (subs_small n.toNat (by omega) size.toNat (by omega)).1
      rw [en] at sm
      refine ⟨b, xs, rfl, g3.fh _ _ hb, ?_, th xs F3 H3 (g12.trans g3) hxs⟩
      rw [lx, List.length_map]
      exact sz_of (n := 0 + (subsL n size.toNat).length) (by omega)
/-! ### listed -/
def lsD (n size : Int) : PyData := match sbE n size with
  | .error e => raisedD e
  | .ok r => .tuple [.str "rows", .str "", .list (r.map tupI), .bool true]
theorem sbE_c {n size : Int} {e : Er} (h : sbE n size = .error e) : (∃ v, e = ⟨.TooFar, .int v⟩) ∨ ∃ v, e = ⟨.NoSize, .int v⟩ := by
  unfold sbE at h
  cases h1 : inR 0 n 12 with
  | false => rw [h1] at h; cases h; exact .inl ⟨_, rfl⟩
  | true =>
    rw [h1] at h
    cases h2 : inR 0 size n with
    | false => rw [h2] at h; cases h; exact .inr ⟨_, rfl⟩
    | true => rw [h2] at h; cases h
theorem sbE_ok {n size : Int} {r : List (List Int)} (h : sbE n size = .ok r) : 0 ≤ n ∧ n ≤ 12 ∧ 0 ≤ size ∧ size ≤ n ∧ r = subsL n size.toNat := by
  unfold sbE at h
  cases h1 : inR 0 n 12 with
  | false => rw [h1] at h; cases h
  | true =>
    rw [h1] at h
    cases h2 : inR 0 size n with
    | false => rw [h2] at h; cases h
    | true =>
      rw [h2] at h
      cases h
      unfold inR at h1 h2
      rw [Bool.and_eq_true, decide_eq_true_eq, decide_eq_true_eq] at h1 h2
      exact ⟨h1.1, h1.2, h2.1, h2.2, rfl⟩
theorem ok_lsD (n size : Int) : Ok (lsD n size) 4 := by
  unfold lsD
  cases h : sbE n size with
  | ok r => exact ok_four (n := 3) (ok_str (by decide +kernel)) (ok_str (by decide +kernel)) (ok_lst (n := 2) fun d hd => by
    obtain ⟨x, _, rfl⟩ := List.mem_map.mp hd
    exact ok_tup (n := 1) (ok_ints x)) ok_bl
  | error e =>
    rcases sbE_c h with ⟨v, rfl⟩ | ⟨v, rfl⟩
    · exact (ok_rsd (show PyData.strOk (nmE .TooFar) = true by decide +kernel) ok_int).up (by decide)
    · exact (ok_rsd (show PyData.strOk (nmE .NoSize) = true by decide +kernel) ok_int).up (by decide)
def args__law_listed {K : PySem.W.Frag} {mg : Str → Option Value} (T : Tx K mg) : Int × Int → List PV := args_subsets T
def dom__law_listed : Int × Int → Prop := fun _ => True
def out__law_listed {K : PySem.W.Frag} {mg : Str → Option Value} (T : Tx K mg) : Int × Int → Out := fun a => .ok (dv K (lsD a.1 a.2))
abbrev tbL {K : PySem.W.Frag} {mg : Str → Option Value} (T : Tx K mg) : WX → TS := fun W => tAsg (tListG (tCallG (PrmG K T.M (args_subsets T) dom_subsets out_subsets) [] (genE K W 7) (tCons (tVar 0) (tCons (tVar 1) tNil)))) (gName 2)
theorem ok__law_listed {P : Program} {w : World} {K : PySem.W.Frag} {mg : Str → Option Value} {base : Heap} (T : Tx K mg) : FnOk P w K mg base (L2.CX P w) 8 T.a__law_listed T.fd__law_listed ["n", "size"] (Prm K T.M (args__law_listed T) dom__law_listed (out__law_listed T)) := by
  refine T.F__law_listed.okX sc__law_listed (fun vs H Q E h => by obtain ⟨a, F, _, al, _⟩ := h; exact al.length) (fun cdv A outer s H vs Q E hr h => ?_)
  have tk : Takes (cxOf (L2.CX P w) P w K mg base N__law_listed "_law_listed" (defScope s__law_listed) T.a__law_listed cdv A outer s H E) (fun cls d _ H => E cls d H) := takes_of rfl rfl rfl rfl
  obtain ⟨a, F, fh, al, hd, th⟩ := h
  refine ⟨_, (pss_cons (ps_try_named (tb := fun W => _) rfl rfl sc__law_listed.nd tk (fun W pn xe tkb pob => (pss_one (ps_set (i := 2) sc__law_listed.nd rfl (by first | exact Or.inl rfl | exact Or.inr rfl) (pe_listG (E := genE K W 7) (pgen_call (E := genE K W 7) (dvs := []) (gk_subsets T) (hr.mono (by decide)) (by rfl) T.g_subsets T.F_subsets.kp (b_subsets T) .nil (pa_cons (pv 0) (pa_cons (pv 1) pa_nil))) (passG tkb rfl) noStopG (hr.mono (by decide)) (by rfl) T.z_list PyProof.Rows.boot_list)))) (Clauses.cons (c := .ref T.a_TooFar) (i := 3) ⟨rfl, by decide, .inl T.g_TooFar⟩ rfl rfl (fun a ob cls d pn hz hf => (pss_cons (ps_set (i := 4) sc__law_listed.nd rfl (by first | exact Or.inl rfl | exact Or.inr rfl) (pe_and (pe_callB (call_isEx hz hf) (by rfl) T.z_isinstance PyProof.Rows.boot_isinstance (pa_cons (pv 3) (pa_cons (pe_glob (v := .ref T.a_BowlError) (by rfl) T.g_BowlError rfl) pa_nil))) (pe_one (pe_callB (call_isEx hz hf) (by rfl) T.z_isinstance PyProof.Rows.boot_isinstance (pa_cons (pv 3) (pa_cons (pe_bltn (v := .ty "ValueError") (by rfl) T.z_ValueError PyProof.Rows.Boot.«ValueError» rfl) pa_nil))))))
      (pss_one (ps_ret (pe_tup (pa_cons pe_str (pa_cons pe_str (pa_cons (pe_xf (T.X_TooFar).xf (T.X_TooFar).nf hz hf (pv 3)) (pa_cons (pe_and (pv 4) (pe_one (pe_not (pe_callB (call_isExT hz hf) (by rfl) T.z_isinstance PyProof.Rows.boot_isinstance (pa_cons (pv 3) (pa_cons (pe_tup (pa_cons (pe_glob (v := .ref T.a_NoSize) (by rfl) T.g_NoSize rfl) (pa_cons (pe_glob (v := .ref T.a_WrongCount) (by rfl) T.g_WrongCount rfl) pa_nil))) pa_nil)))))) pa_nil))))))))) (Clauses.cons (c := .ref T.a_NoSize) (i := 3) ⟨rfl, by decide, .inl T.g_NoSize⟩ rfl rfl (fun a ob cls d pn hz hf => (pss_cons (ps_set (i := 4) sc__law_listed.nd rfl (by first | exact Or.inl rfl | exact Or.inr rfl) (pe_and (pe_callB (call_isEx hz hf) (by rfl) T.z_isinstance PyProof.Rows.boot_isinstance (pa_cons (pv 3) (pa_cons (pe_glob (v := .ref T.a_BowlError) (by rfl) T.g_BowlError rfl) pa_nil))) (pe_one (pe_callB (call_isEx hz hf) (by rfl) T.z_isinstance PyProof.Rows.boot_isinstance (pa_cons (pv 3) (pa_cons (pe_bltn (v := .ty "ValueError") (by rfl) T.z_ValueError PyProof.Rows.Boot.«ValueError» rfl) pa_nil))))))
      (pss_one (ps_ret (pe_tup (pa_cons pe_str (pa_cons pe_str (pa_cons (pe_xf (T.X_NoSize).xf (T.X_NoSize).nf hz hf (pv 3)) (pa_cons (pe_and (pv 4) (pe_one (pe_not (pe_callB (call_isExT hz hf) (by rfl) T.z_isinstance PyProof.Rows.boot_isinstance (pa_cons (pv 3) (pa_cons (pe_tup (pa_cons (pe_glob (v := .ref T.a_TooFar) (by rfl) T.g_TooFar rfl) (pa_cons (pe_glob (v := .ref T.a_WrongCount) (by rfl) T.g_WrongCount rfl) pa_nil))) pa_nil)))))) pa_nil))))))))) Clauses.nil)))
      (pss_cons (ps_for (passes_of rfl) rfl (pi_list (pv 2)) (pg_name (i := 5) sc__law_listed.nd rfl (by first | exact Or.inl rfl | exact Or.inr rfl)) (pss_one (ps_if (PW.pt (pw_or (pt_not (pt_val (pe_callB call_isi (by rfl) T.z_isinstance PyProof.Rows.boot_isinstance (pa_cons (pv 5) (pa_cons (pe_bltn (v := .ty "tuple") (by rfl) T.z_tuple PyProof.Rows.boot_tuple rfl) pa_nil))))) (pw_or1 (pt_cmpR op_in_seq pe_bl (pe_lc (own := [("k", 6)]) (g := (gName 6)) (tt := tYes) (te := (tCallS (Prm K T.M (args__law_whole T) dom__law_whole (out__law_whole T)) (WE fun _ _ _ _ => False) (tCons (tVar 6) tNil))) rfl sc__law_listed.nd (pi_tup (pv 5)) (blkOk_by (N := N__law_listed) (sc := defScope s__law_listed) (own := [("k", 6)]) (by decide +kernel)) (fun _ _ _ _ _ => (pg_name (i := 6) sc__law_listed.nd rfl (by first | exact Or.inl rfl | exact Or.inr rfl))) (fun _ _ _ _ _ => by exact pts_nil) (fun _ _ _ _ _ => by exact (pe_callS (ok__law_whole T) (hr.mono (by decide)) (by rfl) T.g__law_whole T.F__law_whole.kp (b__law_whole T) (fun σ => passAt takes0 σ) (pa_cons (pv 6) pa_nil)))) (by rfl))))) (pss_one (ps_ret (pe_tup (pa_cons pe_str (pa_cons pe_str (pa_cons (pe_lst pa_nil) (pa_cons pe_bl pa_nil))))))) pss_nil)))
      (pss_one (ps_ret (pe_tup (pa_cons pe_str (pa_cons pe_str (pa_cons (pv 2) (pa_cons pe_bl pa_nil))))))))), ?_⟩
  obtain ⟨n, size⟩ := a
  let W0 : WX := fun cls d _ H => E cls d H
  let nd : PV := dv K (.int n)
  let sd : PV := dv K (.int size)
  let e0 := entry N__law_listed (args__law_listed T (n, size))
  have ho : out__law_listed T (n, size) = .ok (dv K (lsD n size)) := rfl
  rw [ho] at th
  unfold lsD at th
  have ja : ∀ W' : WX, JA K T.M W' (tCons (tVar 0) (tCons (tVar 1) tNil)) e0 (args_subsets T (n, size)) := fun W' => ja_cons (je_var (i := 0) rfl) (ja_cons (je_var (i := 1) rfl) ja_nil)
  cases hq : sbE n size with
  | error e =>
    rw [hq] at th
    have oe : out_subsets (n, size) = .error e := by
      show asT (sbE n size) = _
      rw [hq]
      rfl
    have hs : PySem.W.subIn K (.ref (T.M e.c)) (.type "StopIteration") = some false := by
      rcases sbE_c hq with ⟨v, rfl⟩ | ⟨v, rfl⟩
      · exact T.p_TooFar
      · exact T.p_NoSize
    have hb : ∀ W' : WX, JS K T.M W' (tbL T W') e0 (.er e) := fun W' => je_listG (i := 2) (M := T.M) (n, size) (ja W') trivial oe hs rfl
    refine fin_ok (r := .rt (dv K (raisedD e))) (js_rt (js_try_er (tb := tbL T) hb ?_)) (by exact rfl) fh al th
    rcases sbE_c hq with ⟨v, rfl⟩ | ⟨v, rfl⟩
    · exact .inl ⟨T.x_TooFar_TooFar, suite_std (c := .TooFar) (show 3 < 7 by decide) (show 4 < 7 by decide) (by decide) T.X_TooFar.ek T.k_TooFar_BowlError T.k_TooFar_ValueError T.k_TooFar_NoSize_WrongCount⟩
    · exact .inr ⟨T.x_NoSize_TooFar, .inl ⟨T.x_NoSize_NoSize, suite_std (c := .NoSize) (show 3 < 7 by decide) (show 4 < 7 by decide) (by decide) T.X_NoSize.ek T.k_NoSize_BowlError T.k_NoSize_ValueError T.k_NoSize_TooFar_WrongCount⟩⟩
  | ok r =>
    rw [hq] at th
    have oe : out_subsets (n, size) = .ok (r.map tupI) := by
      show asT (sbE n size) = _
      rw [hq]
      rfl
    let q : Kn := [some nd, some sd, some (dv K (.list (r.map tupI))), none, none, none, none]
    have hb : ∀ W' : WX, JS K T.M W' (tbL T W') e0 (.nx q) := fun W' => js_set (i := 2) (P := dv K (.list (r.map tupI))) (jn_told (jn_listG (M := T.M) (W := W') (n, size) (ja W') trivial oe))
    obtain ⟨a1, a2, a3, a4, rfl⟩ := sbE_ok hq
    refine fin_ok (r := .rt (dv K (.tuple [.str "rows", .str "", .list ((subsL n size.toNat).map tupI), .bool true]))) (js_seq (qs := q) (js_try_ok (tb := tbL T) (r := .nx q) hb (fun _ z => nomatch z)) (js_seq (qs := q) (js_allL (vs := [5]) (subsL n size.toNat) tupI (ji_list (je_var (i := 2) rfl)) fun x hx => ⟨_, jg_name, ?_⟩) (js_ret (je_tup (ds := [.str "rows", .str "", .list ((subsL n size.toNat).map tupI), .bool true]) (ja_cons je_str (ja_cons je_str (ja_cons (je_var (i := 2) rfl) (ja_cons je_bl ja_nil)))))))) (by exact rfl) fh al th
    have xl := subs_len hx
    refine js_weak (js_if (b := false) (jt_is (jt_or (jt_not (jt_B (je_isTp (b := true) (je_var (i := 5) rfl) (by decide)))) (fun _ => jt_test (je_inB (bs := List.replicate x.length true) je_bl (je_is (je_lc (vs := [6]) (W' := fun _ _ _ _ => False) x .int (fun _ => true) (fun _ => .bool true) (ji_tup (je_var (i := 5) rfl)) (by omega) fun y _ => ⟨_, jg_name, jt_yes, fun _ => je_call (args := args__law_whole T) (dom := dom__law_whole) (out := out__law_whole T) y (ja_cons (je_var (i := 6) rfl) ja_nil) trivial⟩) (by rw [filter_yes, map_const, List.map_replicate]))))) ?_) (fun z => Bool.noConfusion z) (fun _ => js_next)) ⟨.inr rfl, .inr rfl, .inr rfl, .inr rfl, .inr rfl, .inl rfl, .inr rfl, trivial⟩
    generalize x.length = m
    show (!true || (List.replicate m true).contains false) = false
    induction m with
    | zero => rfl
    | succ m ih =>
      rw [List.replicate_succ, List.contains_cons]
      exact ih
end K02

namespace K02
open PySem PySem.Spec PyProof.Rows L2 Evl EB PySem.W
/-! ### grown -/
theorem fb_max : ∀ n : Nat, n < 13 → ∀ s : Nat, s < 13 → (subsL n s).all (fun x => (-1 :: x).contains (fb x - 1) && (-1 :: x).all fun y => decide (y ≤ fb x - 1)) = true := by decide +kernel
theorem fb_at {n s : Nat} (hn : n < 13) (hs : s < 13) {x : List Int} (h : x ∈ subsL n s) : fb x - 1 ∈ (-1 :: x) ∧ ∀ y ∈ (-1 :: x), y ≤ fb x - 1 := by
  have := List.all_eq_true.mp (fb_max n hn s hs) x h
  rw [Bool.and_eq_true] at this
  refine ⟨by simpa using this.1, fun y hy => ?_⟩
  exact of_decide_eq_true (List.all_eq_true.mp this.2 y hy)
theorem sub_count : ∀ n : Nat, n < 13 → ∀ s : Nat, s < 13 → (((subsL n s).length : Nat) : Int) = mcComb (n : Int) (s : Int) := by decide +kernel
def kidsI (n : Nat) (x : List Int) : List (List Int) := (rg (fb x) ((n : Int) - fb x).toNat).map fun k => x ++ [k]
theorem kids_flat (n s : Nat) : (subsL n s).flatMap (kidsI n) = subsL n (s + 1) := rfl
def args__law_grown {K : PySem.W.Frag} {mg : Str → Option Value} (T : Tx K mg) : Nat × Nat → List PV := fun a => [dv K (.int (a.1 : Int)), dv K (.int (a.2 : Int))]
def dom__law_grown : Nat × Nat → Prop := fun a => a.1 ≤ 12 ∧ a.2 ≤ 12
def out__law_grown {K : PySem.W.Frag} {mg : Str → Option Value} (T : Tx K mg) : Nat × Nat → Out := fun a => .ok (dv K (.list ((subsL a.1 a.2).map tupI)))
theorem mapT_at {rows : List (List Int)} {i : Nat} {d : PyData} (h : (rows.map tupI)[i]? = some d) : ∃ hl : i < rows.length, d = tupI rows[i] := by
  have hl : i < rows.length := by
    have := (List.getElem?_eq_some_iff.mp h).1
    rw [List.length_map] at this
    exact this
  rw [List.getElem?_map, List.getElem?_eq_getElem hl] at h
  cases h
  exact ⟨hl, rfl⟩
theorem ok__law_grown {P : Program} {w : World} {K : PySem.W.Frag} {mg : Str → Option Value} {base : Heap} (T : Tx K mg) : FnOk P w K mg base (L2.CX P w) 1 T.a__law_grown T.fd__law_grown ["n", "size"] (Prm K T.M (args__law_grown T) dom__law_grown (out__law_grown T)) := by
  refine T.F__law_grown.okX sc__law_grown (fun vs H Q E h => by obtain ⟨a, F, _, al, _⟩ := h; exact al.length) (fun cdv A outer s H vs Q E hr h => ?_)
  have tk : Takes (cxOf (L2.CX P w) P w K mg base N__law_grown "_law_grown" (defScope s__law_grown) T.a__law_grown cdv A outer s H E) (fun cls d _ H => E cls d H) := takes_of rfl rfl rfl rfl
  obtain ⟨a, F, fh, al, hd, th⟩ := h
  refine ⟨_, (pss_cons (ps_set (i := 2) sc__law_grown.nd rfl (by first | exact Or.inl rfl | exact Or.inr rfl) (pe_lst (pa_cons (pe_tup pa_nil) pa_nil)))
      (pss_cons (ps_for (passes_of rfl) rfl (pi_range1 (by rfl) T.z_range (pa_cons (pv 1) pa_nil)) (pg_name (i := 3) sc__law_grown.nd rfl (by first | exact Or.inl rfl | exact Or.inr rfl)) (pss_cons (ps_set (i := 4) sc__law_grown.nd rfl (by first | exact Or.inl rfl | exact Or.inr rfl) (pe_lst pa_nil))
      (pss_cons (ps_for (passes_of rfl) rfl (pi_list (pv 2)) (pg_name (i := 5) sc__law_grown.nd rfl (by first | exact Or.inl rfl | exact Or.inr rfl)) (pss_cons (ps_set (i := 6) sc__law_grown.nd rfl (by first | exact Or.inl rfl | exact Or.inr rfl) (pe_op op_add (pe_callB (cr_max rfl) (by rfl) T.z_max (by decide +kernel) (pa_cons (pe_op op_cat (pe_lst (pa_cons (pe_un un_neg pe_int) pa_nil)) (pe_callTy call_list_of (by rfl) T.z_list PyProof.Rows.boot_list (pa_cons (pv 5) pa_nil))) pa_nil)) pe_int))
      (pss_one (ps_expr (pe_bm PySem.F.plainAttrs_list PySem.F.slot_list_extend PySem.F.type_list_extend mt_extend (pv 4) (pa_cons (pe_lc (own := [("number", 7)]) (g := (gName 7)) (tt := tYes) (te := (tOp (rCatA K) (tVar 5) (tTup (tCons (tVar 7) tNil)))) rfl sc__law_grown.nd (pi_range2 (by rfl) T.z_range (pa_cons (pv 6) (pa_cons (pv 0) pa_nil))) (blkOk_by (N := N__law_grown) (sc := defScope s__law_grown) (own := [("number", 7)]) (by decide +kernel)) (fun _ _ _ _ _ => (pg_name (i := 7) sc__law_grown.nd rfl (by first | exact Or.inl rfl | exact Or.inr rfl))) (fun _ _ _ _ _ => by exact pts_nil) (fun _ _ _ _ _ => by exact (pe_op op_catA (pv 5) (pe_tup (pa_cons (pv 7) pa_nil))))) pa_nil))))))
      (pss_one (ps_set (i := 2) sc__law_grown.nd rfl (by first | exact Or.inl rfl | exact Or.inr rfl) (pe_callTy call_list_of (by rfl) T.z_list PyProof.Rows.boot_list (pa_cons (pv 4) pa_nil)))))))
      (pss_one (ps_ret (pv 2))))), ?_⟩
  obtain ⟨n, size⟩ := a
  obtain ⟨hn, hs⟩ := hd
  simp only at hn hs
  let W0 : WX := fun cls d _ H => E cls d H
  have ho : out__law_grown T (n, size) = .ok (dv K (.list ((subsL n size).map tupI))) := rfl
  rw [ho] at th
  let nd : PV := dv K (.int (n : Int))
  let sd : PV := dv K (.int (size : Int))
  let f : Nat → Kn := fun i => [some nd, some sd, some (dv K (.list ((subsL n i).map tupI))), none, none, none, none, none]
  refine fin_ok (r := .rt (dv K (.list ((subsL n size).map tupI)))) (js_seq (qs := f 0) (js_set (M := T.M) (W := W0) (i := 2) (P := dv K (.list ((subsL n 0).map tupI))) (je_lst (ds := [tupI []]) (ja_cons (je_tup (ds := []) ja_nil) ja_nil))) (js_seq (qs := f size)
    (js_for (vs := [3]) f size (ji_uptoN (n := size) (je_var (i := 1) rfl) (by omega)) rfl (by rw [List.length_map, List.length_range]; exact Nat.le_refl _) (fun i d hi hd => ?_) (.inl ⟨by rw [List.length_map, List.length_range], rfl⟩))
    (js_ret (je_var (i := 2) rfl)))) (by exact rfl) fh al th
  obtain ⟨hlt, rfl⟩ := rngI_at hd
  let rows := subsL n i
  let kd : Option PV := some (dv K (.int (i : Int)))
  let g : Addr → PyData → Kn := fun D rd => [some nd, some sd, some (dv K rd), kd, some (xv (.ref D)), none, none, none]
  let r0 : PyData := .list (rows.map tupI)
  have sm := (subs_small n (by omega) i (by omega))
  have sm2 := (subs_small n (by omega) (i + 1) (by omega)).1
  have full : ((rows.take rows.length).flatMap (kidsI n)) = subsL n (i + 1) := by
    rw [List.take_length]
    rfl
  have pre : ∀ j, ((rows.take j).flatMap (kidsI n)).length ≤ 1000 := fun j => by
    have := flatMap_take_le (kidsI n) rows j
    rw [show rows.flatMap (kidsI n) = subsL n (i + 1) from rfl] at this
    omega
  refine ⟨_, jg_name, .inl (jl_scope (i := 4) (j := 4) (fun D => g D (.list ((subsL n (i + 1)).map tupI))) (es := (subsL n (i + 1)).map tupI) (jn_lst (M := T.M) (W := W0) (ds := []) ja_nil) (fun D F1 H1 hD => ?_) (fun D => rfl) (fun D => ⟨.inr rfl, .inr rfl, .inr rfl, .inl rfl, .inl rfl, .inr rfl, .inr rfl, .inr rfl, trivial⟩))⟩
  refine jl_seq (qs := g D r0) (es := (subsL n (i + 1)).map tupI) (jl_is (jl_forN (n := rows.length) (M := T.M) (W := W0) (vs := [5]) (rows.map tupI) (fun _ => g D r0) (fun j => ((rows.take j).flatMap (kidsI n)).map tupI) (by rw [List.length_map]) (ji_list (je_var (i := 2) rfl)) rfl rfl fun j d hj => ?_) (by rw [full])) (jl_copyOf (i := 4) (j := 2) rfl)
  obtain ⟨hjl, rfl⟩ := mapT_at hj
  let x := rows[j]
  have hx : x ∈ subsL n i := List.getElem_mem hjl
  obtain ⟨m1, m2⟩ := fb_at (by omega) (by omega) hx
  have xr := of_decide_eq_true (List.all_eq_true.mp sm.2 x hx)
  have xl := subs_len hx
  let g5 : Kn := [some nd, some sd, some (dv K r0), kd, some (xv (.ref D)), some (dv K (tupI x)), none, none]
  let g6 : Kn := [some nd, some sd, some (dv K r0), kd, some (xv (.ref D)), some (dv K (tupI x)), some (dv K (.int (fb x))), none]
  have kl : (kidsI n x).length ≤ 100 := by
    unfold kidsI
    rw [List.length_map, rg_length]
    omega
  refine ⟨g5, jg_name, jl_weak (jl_seq (qs := g6) (jl_js (js_set (i := 6) (P := dv K (.int (fb x))) (je_is (je_add (je_maxI (ns := -1 :: x) (m := fb x - 1) (je_is (je_lvd (je_catV (ds := [.int (-1)]) (es := x.map .int) (je_lstV (ds := [.int (-1)]) (ja_cons (je_neg je_int) ja_nil)) (jn_lv (jn_listT (M := T.M) (W := W0) (je_var (i := 5) rfl))) (by rw [List.length_map]; simp; omega))) rfl) m1 m2) je_int) (congrArg PyData.int (by omega)))))
    (jl_is (jl_ext (i := 4) (es := (kidsI n x).map tupI) rfl hD (jn_lv (jn_is (jn_lc (M := T.M) (W := W0) (W' := fun _ _ _ _ => False) (vs := [7]) (rg (fb x) ((n : Int) - fb x).toNat) .int (fun _ => true) (fun k => tupI (x ++ [k])) (ji_rng2 (lo := fb x) (n := (n : Int)) (ja_cons (je_var (i := 6) rfl) (ja_cons (je_var (i := 0) rfl) ja_nil)) ⟨by omega, by omega, by omega, by omega⟩) (by rw [rg_length]; omega) fun k hk => ⟨_, jg_name, jt_yes, fun _ => ?_⟩) ?e1)) (by rw [List.length_map, List.length_map]; have := pre j; omega)) ?e2)) ⟨.inr rfl, .inr rfl, .inr rfl, .inr rfl, .inr rfl, .inl rfl, .inl rfl, .inr rfl, trivial⟩⟩
  · have e : tupI (x ++ [k]) = .tuple (x.map .int ++ [.int k]) := by
      unfold tupI
      rw [List.map_append]
      rfl
    rw [e]
    exact je_catA (je_var (i := 5) rfl) (je_tup (ds := [.int k]) (ja_cons (je_var (i := 7) rfl) ja_nil)) (by rw [List.length_map]; simp; omega)
  case e1 =>
    rw [filter_yes]
    unfold kidsI
    rw [List.map_map]
    rfl
  case e2 =>
    rw [flatMap_take_succ (List.getElem?_eq_getElem hjl), List.map_append]
/-! ### subsets hold -/
def args__law_subsets_hold {K : PySem.W.Frag} {mg : Str → Option Value} (T : Tx K mg) : Int × Int → List PV := fun a => [dv K (.int a.1), dv K (.int a.2)]
def dom__law_subsets_hold : Int × Int → Prop := fun _ => True
def out__law_subsets_hold {K : PySem.W.Frag} {mg : Str → Option Value} (T : Tx K mg) : Int × Int → Out := fun a => .ok (dv K (.bool true))
theorem inR_off {lo v hi : Int} (h : (decide (v < lo) || decide (hi < v)) = true) : inR lo v hi = false := by
  unfold inR
  rcases Bool.or_eq_true_iff.mp h with a | a
  · have := of_decide_eq_true a
    rw [decide_eq_false (show ¬ lo ≤ v by omega)]
    rfl
  · have := of_decide_eq_true a
    rw [decide_eq_false (show ¬ v ≤ hi by omega), Bool.and_false]
theorem inR_on {lo v hi : Int} (h : (decide (v < lo) || decide (hi < v)) = false) : lo ≤ v ∧ v ≤ hi := by
  rcases Bool.or_eq_false_iff.mp h with ⟨a1, a2⟩
  have := of_decide_eq_false a1
  have := of_decide_eq_false a2
  omega
theorem ok__law_subsets_hold {P : Program} {w : World} {K : PySem.W.Frag} {mg : Str → Option Value} {base : Heap} (T : Tx K mg) : FnOk P w K mg base (L2.CX P w) 9 T.a__law_subsets_hold T.fd__law_subsets_hold ["n", "size"] (Prm K T.M (args__law_subsets_hold T) dom__law_subsets_hold (out__law_subsets_hold T)) := by
  refine T.F__law_subsets_hold.okX sc__law_subsets_hold (fun vs H Q E h => by obtain ⟨a, F, _, al, _⟩ := h; exact al.length) (fun cdv A outer s H vs Q E hr h => ?_)
  have tk : Takes (cxOf (L2.CX P w) P w K mg base N__law_subsets_hold "_law_subsets_hold" (defScope s__law_subsets_hold) T.a__law_subsets_hold cdv A outer s H E) (fun cls d _ H => E cls d H) := takes_of rfl rfl rfl rfl
  obtain ⟨a, F, fh, al, hd, th⟩ := h
  refine ⟨_, (pss_cons (ps_if (PW.pt (pw_or (pt_cmpR op_lt (pv 0) pe_int (nomark _)) (pw_or1 (pt_cmpR op_gt (pv 0) pe_int (nomark _))))) (pss_one (ps_set (i := 2) sc__law_subsets_hold.nd rfl (by first | exact Or.inl rfl | exact Or.inr rfl) (pe_tup (pa_cons pe_str (pa_cons pe_str (pa_cons (pv 0) (pa_cons pe_bl pa_nil))))))) (pss_one (ps_if (PW.pt (pw_or (pt_cmpR op_lt (pv 1) pe_int (nomark _)) (pw_or1 (pt_cmpR op_gt (pv 1) (pv 0) (nomark _))))) (pss_one (ps_set (i := 2) sc__law_subsets_hold.nd rfl (by first | exact Or.inl rfl | exact Or.inr rfl) (pe_tup (pa_cons pe_str (pa_cons pe_str (pa_cons (pv 1) (pa_cons pe_bl pa_nil))))))) (pss_cons (ps_set (i := 2) sc__law_subsets_hold.nd rfl (by first | exact Or.inl rfl | exact Or.inr rfl) (pe_tup (pa_cons pe_str (pa_cons pe_str (pa_cons (pe_callS (ok__law_grown T) (hr.mono (by decide)) (by rfl) T.g__law_grown T.F__law_grown.kp (b__law_grown T) (fun σ => passAt tk σ) (pa_cons (pv 0) (pa_cons (pv 1) pa_nil))) (pa_cons pe_bl pa_nil))))))
      (pss_one (ps_if (pt_cmpR (op_neD hr.units) (pe_callS (ok__law_chosen T) (hr.mono (by decide)) (by rfl) T.g__law_chosen T.F__law_chosen.kp (b__law_chosen T) (fun σ => passAt tk σ) (pa_cons (pv 0) (pa_cons (pv 1) pa_nil))) (pe_tup (pa_cons pe_str (pa_cons pe_str (pa_cons (pe_callB call_len_seq (by rfl) T.z_len PySem.boot_len (pa_cons (pe_ix ix_tup (pv 2) pe_int (fun _ _ => rfl)) pa_nil)) (pa_cons pe_bl pa_nil))))) (nomark _)) (pss_one (ps_ret pe_bl)) pss_nil))))))
      (pss_one (ps_ret (pe_and (pe_cmpR (op_eqD hr.units) (pe_callS (ok__law_listed T) (hr.mono (by decide)) (by rfl) T.g__law_listed T.F__law_listed.kp (b__law_listed T) (fun σ => passAt tk σ) (pa_cons (pv 0) (pa_cons (pv 1) pa_nil))) (pv 2) (nomark _)) (pe_one (pe_cmpR (op_eqD hr.units) (pe_callS (ok__law_listed T) (hr.mono (by decide)) (by rfl) T.g__law_listed T.F__law_listed.kp (b__law_listed T) (fun σ => passAt tk σ) (pa_cons (pv 0) (pa_cons (pv 1) pa_nil))) (pv 2) (nomark _))))))), ?_⟩
  obtain ⟨n, s⟩ := a
  let W0 : WX := fun cls d _ H => E cls d H
  let e0 := entry N__law_subsets_hold (args__law_subsets_hold T (n, s))
  let q : Kn := [some (dv K (.int n)), some (dv K (.int s)), some (dv K (lsD n s))]
  have cal : JD K T.M W0 (tCallS (Prm K T.M (args__law_listed T) dom__law_listed (out__law_listed T)) (WE W0) (tCons (tVar 0) (tCons (tVar 1) tNil))) q (lsD n s) := je_call (args := args__law_listed T) (dom := dom__law_listed) (out := out__law_listed T) (n, s) (ja_cons (je_var (i := 0) rfl) (ja_cons (je_var (i := 1) rfl) ja_nil)) trivial
  have rsd : ∀ (c : Str) (i : Nat) (v : Int), e0[i]? = some (some (dv K (.int v))) → JD K T.M W0 (tTup (tCons (tC (.str "raised")) (tCons (tC (.str c)) (tCons (tVar i) (tCons (tC (.bl true)) tNil))))) e0 (.tuple [.str "raised", .str c, .int v, .bool true]) := fun c i v h => je_tup (ds := [.str "raised", .str c, .int v, .bool true]) (ja_cons je_str (ja_cons je_str (ja_cons (je_var (i := i) h) (ja_cons je_bl ja_nil))))
  refine fin_ok (r := .rt (dv K (.bool true))) (js_seq (qs := q) (js_if (b := decide (n < 0) || decide (12 < n)) (jt_or (jt_test (je_lt (je_var (i := 0) rfl) je_int)) (fun _ => jt_test (je_gt (je_var (i := 0) rfl) je_int))) (fun z => ?g1) (fun z => js_if (b := decide (s < 0) || decide (n < s)) (jt_or (jt_test (je_lt (je_var (i := 1) rfl) je_int)) (fun _ => jt_test (je_gt (je_var (i := 1) rfl) (je_var (i := 0) rfl)))) (fun z2 => ?g2) (fun z2 => ?g3))) (js_ret (je_andV (a := true) (b := true) (je_eqR cal (je_var (i := 2) rfl) (ok_lsD n s)) (fun _ => je_eqR cal (je_var (i := 2) rfl) (ok_lsD n s))))) (by exact rfl) fh al th
  case g1 =>
    have e : lsD n s = raisedD ⟨.TooFar, .int n⟩ := by
      unfold lsD sbE
      rw [inR_off z]
    have := js_set (i := 2) (rsd "TooFar" 0 n rfl)
    have e2 : dv K (.tuple [.str "raised", .str "TooFar", .int n, .bool true]) = dv K (lsD n s) := by rw [e]; rfl
    rw [e2] at this
    exact this
  case g2 =>
    have zn := inR_on z
    have e : lsD n s = raisedD ⟨.NoSize, .int s⟩ := by
      unfold lsD sbE
      rw [inR_of zn.1 zn.2, inR_off z2]
    have := js_set (i := 2) (rsd "NoSize" 1 s rfl)
    have e2 : dv K (.tuple [.str "raised", .str "NoSize", .int s, .bool true]) = dv K (lsD n s) := by rw [e]; rfl
    rw [e2] at this
    exact this
  case g3 =>
    have zn := inR_on z
    have zs := inR_on z2
    have en : ((n.toNat : Nat) : Int) = n := Int.toNat_of_nonneg zn.1
    have es : ((s.toNat : Nat) : Int) = s := Int.toNat_of_nonneg zs.1
    let rows := subsL n s.toNat
    let dl : List PyData := [.str "rows", .str "", .list (rows.map tupI), .bool true]
    have e : lsD n s = .tuple dl := by
      unfold lsD sbE
      rw [inR_of zn.1 zn.2, inR_of zs.1 zs.2]
    have cnt : ((rows.length : Nat) : Int) = mcComb n s := by
      have := sub_count n.toNat (by omega) s.toNat (by omega)
      rw [en, es] at this
      exact this
    have ec : chD n s = numD rows.length := by
      unfold chD chE
      rw [inR_of zn.1 (by omega), inR_of (by omega) (by omega), if_pos zs.1, ← cnt]
    have og : out__law_grown T (n.toNat, s.toNat) = .ok (dv K (.list (rows.map tupI))) := by
      unfold out__law_grown
      dsimp only
      rw [en]
    have hg := je_call (K := K) (M := T.M) (W := W0) (ps := e0) (args := args__law_grown T) (dom := dom__law_grown) (out := out__law_grown T) (n.toNat, s.toNat) (ja_cons (je_is (je_var (i := 0) rfl) (congrArg PyData.int en.symm)) (ja_cons (je_is (je_var (i := 1) rfl) (congrArg PyData.int es.symm)) ja_nil)) ⟨by show n.toNat ≤ 12; omega, by show s.toNat ≤ 12; omega⟩
    rw [og] at hg
    have st := js_set (i := 2) (je_tup (ds := dl) (ja_cons je_str (ja_cons je_str (ja_cons hg (ja_cons je_bl ja_nil)))) (by show 4 ≤ 100000; decide))
    have e2 : dv K (.tuple dl) = dv K (lsD n s) := by rw [e]
    rw [e2] at st
    refine js_seq (qs := q) st (js_if (b := false) (jt_test (je_neR (d := chD n s) (je_call (args := args__law_chosen T) (dom := dom__law_chosen) (out := out__law_chosen T) (n, s) (ja_cons (je_var (i := 0) rfl) (ja_cons (je_var (i := 1) rfl) ja_nil)) trivial) ?_ (ok_chD n s))) (fun z => Bool.noConfusion z) (fun _ => js_next))
    rw [ec]
    exact je_tup (ds := [.str "number", .str "", .int rows.length, .bool true]) (ja_cons je_str (ja_cons je_str (ja_cons (je_is (je_lenL (je_ixT (ds := dl) (je_var (i := 2) (by show some (some (dv K (lsD n s))) = _; rw [← e2])) je_int rfl)) (by rw [List.length_map])) (ja_cons je_bl ja_nil))))
end K02

namespace K02
open PySem PySem.Spec PyProof.Rows L2 Evl EB PySem.W
def sp_law (K : PySem.W.Frag) : Sp := fun vs H Q _ => ∃ (a : Addr) (ns : List Int), vs = [.ref a] ∧ SqL K H a (ns.map V.int) ∧ ns.length ≤ 63 ∧ ∀ H', Q (.bl true) H'
theorem sp_start {K : PySem.W.Frag} {H : Hp} {a : Addr} {ns : List Int} (hl : ns.length ≤ 63) (hS : SqL K H a (ns.map V.int)) : sp_law K [.ref a] H (fun v _ => v = .bl true) fun _ _ _ => False := ⟨a, ns, rfl, hS, hl, fun _ => rfl⟩
theorem js_run {K : PySem.W.Frag} {M : EC → Addr} {W : WX} {ts : TS} {ps : Kn} {r : Res} {D : Ends} {σ : L2.St} {F H : Hp} (h : JS K M W ts ps r) (fh : Ex F H) (S : Sl F σ ps) (k : Wsh K M W ps.length D F H r) : ts D σ H := h D σ F H fh S k
theorem rowW_len (ns : List Int) (m : Nat) : (rowW ns m).length = m := by
  unfold rowW
  rw [List.length_map, List.length_range]
theorem edR_len (row : List Int) (c : Int) : (edR row c).length = row.length := by
  unfold edR
  by_cases h : row = []
  · rw [if_pos h, h]
  · rw [if_neg h]
    split <;> rw [List.length_set, List.length_set]
theorem spR_len (row : List Int) (c : Int) : (spR row c).length = row.length := by
  unfold spR r1S
  split
  · split
    · rw [sp3_len]
    · rfl
  · split
    · rw [List.length_set, List.length_set]
    · rw [List.length_set]
theorem ok_law {P : Program} {w : World} {K : PySem.W.Frag} {mg : Str → Option Value} {base : Heap} (T : Tx K mg) : FnOk P w K mg base CX0 10 T.a_law T.fd_law ["script"] (sp_law K) := by
  refine T.F_law.ok sc_law (fun vs H Q E h => by obtain ⟨a, ns, rfl, _⟩ := h; rfl) (fun cdv A outer s H vs Q E hr h => ?_)
  refine ⟨_, (pss_cons (ps_set (i := 1) sc_law.nd rfl (by first | exact Or.inl rfl | exact Or.inr rfl) (pe_slice sl_list (pv 0) po_none (po_some pe_int)))
      (pss_cons (ps_set (i := 2) sc_law.nd rfl (by first | exact Or.inl rfl | exact Or.inr rfl) (pe_callS (ok__law_row T) (hr.mono (by decide)) (by rfl) T.g__law_row T.F__law_row.kp (b__law_row T) (fun σ => passAt takes0 σ) (pa_cons (pv 1) (pa_cons (pe_callS (ok__law_length T) (hr.mono (by decide)) (by rfl) T.g__law_length T.F__law_length.kp (b__law_length T) (fun σ => passAt takes0 σ) (pa_cons (pe_callS (ok__law_cell T) (hr.mono (by decide)) (by rfl) T.g__law_cell T.F__law_cell.kp (b__law_cell T) (fun σ => passAt takes0 σ) (pa_cons (pv 1) (pa_cons pe_int pa_nil))) pa_nil)) pa_nil))))
      (pss_cons (ps_set (i := 3) sc_law.nd rfl (by first | exact Or.inl rfl | exact Or.inr rfl) (pe_callS (ok__law_edged T) (hr.mono (by decide)) (by rfl) T.g__law_edged T.F__law_edged.kp (b__law_edged T) (fun σ => passAt takes0 σ) (pa_cons (pv 2) (pa_cons (pe_callS (ok__law_cell T) (hr.mono (by decide)) (by rfl) T.g__law_cell T.F__law_cell.kp (b__law_cell T) (fun σ => passAt takes0 σ) (pa_cons (pv 1) (pa_cons pe_int pa_nil))) pa_nil))))
      (pss_cons (ps_set (i := 4) sc_law.nd rfl (by first | exact Or.inl rfl | exact Or.inr rfl) (pe_tup (pa_cons pe_str (pa_cons pe_str (pa_cons pe_str (pa_cons pe_str pa_nil))))))
      (pss_cons (ps_if (PW.pt (pw_or (pt_not (pt_val (pe_callS (ok__law_sums_hold T) (hr.mono (by decide)) (by rfl) T.g__law_sums_hold T.F__law_sums_hold.kp (b__law_sums_hold T) (fun σ => passAt takes0 σ) (pa_cons (pv 4) (pa_cons (pv 2) pa_nil))))) (pw_or1 (pt_not (pt_val (pe_callS (ok__law_back_holds T) (hr.mono (by decide)) (by rfl) T.g__law_back_holds T.F__law_back_holds.kp (b__law_back_holds T) (fun σ => passAt takes0 σ) (pa_cons (pv 2) pa_nil))))))) (pss_one (ps_ret pe_bl)) pss_nil)
      (pss_cons (ps_if (PW.pt (pw_or (pt_not (pt_val (pe_callS (ok__law_sums_hold T) (hr.mono (by decide)) (by rfl) T.g__law_sums_hold T.F__law_sums_hold.kp (b__law_sums_hold T) (fun σ => passAt takes0 σ) (pa_cons (pv 4) (pa_cons (pv 3) pa_nil))))) (pw_or1 (pt_not (pt_val (pe_callS (ok__law_back_holds T) (hr.mono (by decide)) (by rfl) T.g__law_back_holds T.F__law_back_holds.kp (b__law_back_holds T) (fun σ => passAt takes0 σ) (pa_cons (pv 3) pa_nil))))))) (pss_one (ps_ret pe_bl)) pss_nil)
      (pss_cons (ps_set (i := 5) sc_law.nd rfl (by first | exact Or.inl rfl | exact Or.inr rfl) (pe_callS (ok__law_differences T) (hr.mono (by decide)) (by rfl) T.g__law_differences T.F__law_differences.kp (b__law_differences T) (fun σ => passAt takes0 σ) (pa_cons (pe_callS (ok__law_differences T) (hr.mono (by decide)) (by rfl) T.g__law_differences T.F__law_differences.kp (b__law_differences T) (fun σ => passAt takes0 σ) (pa_cons (pv 2) pa_nil)) pa_nil)))
      (pss_cons (ps_if (pt_not (pt_val (pe_callS (ok__law_sums_hold T) (hr.mono (by decide)) (by rfl) T.g__law_sums_hold T.F__law_sums_hold.kp (b__law_sums_hold T) (fun σ => passAt takes0 σ) (pa_cons (pe_tup (pa_cons pe_str pa_nil)) (pa_cons (pe_callS (ok__law_spoilt T) (hr.mono (by decide)) (by rfl) T.g__law_spoilt T.F__law_spoilt.kp (b__law_spoilt T) (fun σ => passAt takes0 σ) (pa_cons (pv 5) (pa_cons (pe_callS (ok__law_cell T) (hr.mono (by decide)) (by rfl) T.g__law_cell T.F__law_cell.kp (b__law_cell T) (fun σ => passAt takes0 σ) (pa_cons (pv 1) (pa_cons pe_int pa_nil))) pa_nil))) pa_nil))))) (pss_one (ps_ret pe_bl)) pss_nil)
      (pss_cons (ps_set (i := 6) sc_law.nd rfl (by first | exact Or.inl rfl | exact Or.inr rfl) (pe_op op_sub (pe_op op_mod (pe_callTy call_int1 (by rfl) T.z_int PyProof.Rows.boot_int (pa_cons (pe_op op_add (pe_callS (ok__law_cell T) (hr.mono (by decide)) (by rfl) T.g__law_cell T.F__law_cell.kp (b__law_cell T) (fun σ => passAt takes0 σ) (pa_cons (pv 1) (pa_cons pe_int pa_nil))) pe_int) pa_nil)) pe_int) pe_int))
      (pss_cons (ps_if (pt_not (pt_val (pe_callS (ok__law_choice_holds T) (hr.mono (by decide)) (by rfl) T.g__law_choice_holds T.F__law_choice_holds.kp (b__law_choice_holds T) (fun σ => passAt takes0 σ) (pa_cons (pv 6) (pa_cons (pe_op op_sub (pe_op op_mod (pe_callTy call_int1 (by rfl) T.z_int PyProof.Rows.boot_int (pa_cons (pe_op op_add (pe_callS (ok__law_cell T) (hr.mono (by decide)) (by rfl) T.g__law_cell T.F__law_cell.kp (b__law_cell T) (fun σ => passAt takes0 σ) (pa_cons (pv 1) (pa_cons pe_int pa_nil))) pe_int) pa_nil)) pe_int) pe_int) pa_nil))))) (pss_one (ps_ret pe_bl)) pss_nil)
      (pss_cons (ps_set (i := 6) sc_law.nd rfl (by first | exact Or.inl rfl | exact Or.inr rfl) (pe_op op_sub (pe_op op_mod (pe_callTy call_int1 (by rfl) T.z_int PyProof.Rows.boot_int (pa_cons (pe_op op_add (pe_callS (ok__law_cell T) (hr.mono (by decide)) (by rfl) T.g__law_cell T.F__law_cell.kp (b__law_cell T) (fun σ => passAt takes0 σ) (pa_cons (pv 1) (pa_cons pe_int pa_nil))) pe_int) pa_nil)) pe_int) pe_int))
      (pss_one (ps_ret (pe_callS (ok__law_subsets_hold T) (hr.mono (by decide)) (by rfl) T.g__law_subsets_hold T.F__law_subsets_hold.kp (b__law_subsets_hold T) (fun σ => passAt takes0 σ) (pa_cons (pv 6) (pa_cons (pe_op op_sub (pe_op op_mod (pe_callTy call_int1 (by rfl) T.z_int PyProof.Rows.boot_int (pa_cons (pe_op op_add (pe_callS (ok__law_cell T) (hr.mono (by decide)) (by rfl) T.g__law_cell T.F__law_cell.kp (b__law_cell T) (fun σ => passAt takes0 σ) (pa_cons (pv 1) (pa_cons pe_int pa_nil))) pe_int) pa_nil)) pe_int) pe_int) pa_nil)))))))))))))))), ?_⟩
  obtain ⟨a0, ns0, rfl, hS, hlen, hQ⟩ := h
  let W0 : WX := fun _ _ _ _ => False
  let ns := ns0.take 63
  let m := (lenF (cell ns 0)).toNat
  have hm := lenF_r (cell ns 0)
  let row := rowW ns m
  have rl : row.length = m := rowW_len ns m
  let ed := edR row (cell ns 10)
  have el : ed.length = m := by
    show (edR row (cell ns 10)).length = m
    rw [edR_len, rl]
  let bent := KM.difs 0 (KM.difs 0 row)
  have bl : bent.length = m + 2 := by
    show (KM.difs 0 (KM.difs 0 row)).length = m + 2
    rw [KM.difs_len, KM.difs_len, rl]
  have S0 : Sl H (L2.start N_law [.ref a0]) (entry N_law [dv K (.list (intsD ns0))]) := Sl.start (.cons (.lst hS (dpAll_ints ns0)) .nil)
  have cellc := fun (ps : Kn) (h1 : ps[1]? = some (some (dv K (.list (intsD ns))))) (k : Nat) => je_call (K := K) (M := T.M) (W := W0) (args := args__law_cell T) (dom := dom__law_cell) (out := out__law_cell T) (ns, k) (ja_cons (je_var (ps := ps) (i := 1) h1) (ja_cons (je_int (i := (k : Nat))) ja_nil)) trivial
  let nms : List Nm := [.spread, .gather, .bends, .unbend]
  let nd : PV := dv K (.tuple (nms.map fun nm => .str (nmS nm)))
  let q0 : Kn := entry N_law [dv K (.list (intsD ns0))]
  let c1 : Option PV := some (dv K (.list (intsD ns)))
  let s0 : Option PV := some (dv K (.list (intsD ns0)))
  let rd : Option PV := some (lv K (row.map .int))
  let ee : Option PV := some (lv K (ed.map .int))
  have sums := fun (ps : Kn) (te t2 : TE) (l : List Nm) (r : List Int) (h1 : JD K T.M W0 te ps (.tuple (l.map fun nm => .str (nmS nm)))) (h2 : JV K T.M W0 t2 ps (lv K (r.map .int))) (h3 : r.length ≤ 900) => je_call (K := K) (M := T.M) (W := W0) (args := args__law_sums_hold T) (dom := dom__law_sums_hold) (out := out__law_sums_hold T) (l, r) (ja_cons h1 (ja_cons h2 ja_nil)) h3
  have back := fun (ps : Kn) (t2 : TE) (r : List Int) (h2 : JV K T.M W0 t2 ps (lv K (r.map .int))) (h3 : r.length ≤ 900) => je_call (K := K) (M := T.M) (W := W0) (args := args__law_back_holds T) (dom := dom__law_back_holds) (out := out__law_back_holds T) r (ja_cons h2 ja_nil) h3
  refine js_run (K := K) (M := T.M) (W := W0) (r := .rt (dv K (.bool true))) ?_ (Ex.refl H) S0 (fun v F' H' g p => by rw [dp_bl p]; exact hQ H')
  refine js_seq (js_set (i := 1) (P := dv K (.list (intsD ns))) (je_is (je_slL (ds := intsD ns0) (je_var (i := 0) rfl) jo_none (jo_some (je_int (i := ((63 : Nat) : Int))))) (congrArg PyData.list (cutD_map _ _ _))))
    (js_seq (qs := [s0, c1, rd, none, none, none, none]) (js_set (i := 2) (P := lv K (row.map .int)) (jn_lv (jn_call (M := T.M) (W := W0) (args := args__law_row T) (dom := dom__law_row) (out := out__law_row) (ns, m) (ja_cons (je_var (i := 1) rfl) (ja_cons (je_is (je_call (args := args__law_length T) (dom := dom__law_length) (out := out__law_length T) (cell ns 0) (ja_cons (cellc _ rfl 0) ja_nil) trivial) (congrArg PyData.int (show lenF (cell ns 0) = (((lenF (cell ns 0)).toNat : Nat) : Int) by omega))) ja_nil)) (by show m ≤ 70; show (lenF (cell ns 0)).toNat ≤ 70; omega))))
    (js_seq (qs := [s0, c1, rd, ee, none, none, none]) (js_set (i := 3) (P := lv K (ed.map .int)) (jn_lv (jn_call (M := T.M) (W := W0) (args := args__law_edged T) (dom := dom__law_edged) (out := out__law_edged) (row, cell ns 10) (ja_cons (je_lvd (je_var (i := 2) rfl)) (ja_cons (cellc _ rfl 10) ja_nil)) (by show row.length ≤ 1000; rw [rl]; show (lenF (cell ns 0)).toNat ≤ 1000; omega))))
    (js_seq (qs := [s0, c1, rd, ee, some nd, none, none]) (js_set (i := 4) (P := nd) (je_tup (ds := nms.map fun nm => .str (nmS nm)) (ja_cons je_str (ja_cons je_str (ja_cons je_str (ja_cons je_str ja_nil)))) (by show 4 ≤ 100000; decide)))
    (js_rF (jt_is (jt_or (jt_not (jt_B (sums _ _ _ nms row (je_var (i := 4) rfl) (je_var (i := 2) rfl) ?l1))) (fun _ => jt_not (jt_B (back _ _ row (je_var (i := 2) rfl) ?l1)))) rfl)
    (js_rF (jt_is (jt_or (jt_not (jt_B (sums _ _ _ nms ed (je_var (i := 4) rfl) (je_var (i := 3) rfl) ?l2))) (fun _ => jt_not (jt_B (back _ _ ed (je_var (i := 3) rfl) ?l2)))) rfl)
    (js_seq (qs := [s0, c1, rd, ee, some nd, some (lv K (bent.map .int)), none]) (js_set (i := 5) (P := lv K (bent.map .int)) (jn_lv (jn_call (M := T.M) (W := W0) (args := args__law_differences T) (dom := dom__law_differences) (out := out__law_differences) (KM.difs 0 row) (ja_cons (jn_lv (jn_call (M := T.M) (W := W0) (args := args__law_differences T) (dom := dom__law_differences) (out := out__law_differences) row (ja_cons (je_var (i := 2) rfl) ja_nil) ?l1)) ja_nil) ?l3)))
    (js_rF (jt_is (jt_not (jt_B (sums _ _ _ [.unbend] (spR bent (cell ns 11)) (je_tup (ds := [.str "unbend"]) (ja_cons je_str ja_nil)) (jn_lv (jn_call (M := T.M) (W := W0) (args := args__law_spoilt T) (dom := dom__law_spoilt) (out := out__law_spoilt) (bent, cell ns 11) (ja_cons (je_lvd (je_var (i := 5) rfl)) (ja_cons (cellc _ rfl 11) ja_nil)) ?l5)) ?l4))) rfl)
    (js_seq (qs := [s0, c1, rd, ee, some nd, some (lv K (bent.map .int)), some (dv K (.int ((cell ns 12 + 7) % 64 - 2)))]) (js_set (i := 6) (P := dv K (.int ((cell ns 12 + 7) % 64 - 2))) (je_sub (je_mod (je_intI (je_add (cellc _ rfl 12) je_int)) je_int (by decide)) je_int))
    (js_rF (jt_is (jt_not (jt_B (je_call (K := K) (M := T.M) (W := W0) (args := args__law_choice_holds T) (dom := dom__law_choice_holds) (out := out__law_choice_holds T) ((cell ns 12 + 7) % 64 - 2, (cell ns 13 + 67) % 130 - 65) (ja_cons (je_var (i := 6) rfl) (ja_cons (je_sub (je_mod (je_intI (je_add (cellc _ rfl 13) je_int)) je_int (by decide)) je_int) ja_nil)) trivial))) rfl)
    (js_seq (qs := [s0, c1, rd, ee, some nd, some (lv K (bent.map .int)), some (dv K (.int ((cell ns 14 + 4) % 15 - 1)))]) (js_set (i := 6) (P := dv K (.int ((cell ns 14 + 4) % 15 - 1))) (je_sub (je_mod (je_intI (je_add (cellc _ rfl 14) je_int)) je_int (by decide)) je_int))
    (js_ret (je_call (K := K) (M := T.M) (W := W0) (args := args__law_subsets_hold T) (dom := dom__law_subsets_hold) (out := out__law_subsets_hold T) ((cell ns 14 + 4) % 15 - 1, (cell ns 15 + 4) % 16 - 2) (ja_cons (je_var (i := 6) rfl) (ja_cons (je_sub (je_mod (je_intI (je_add (cellc _ rfl 15) je_int)) je_int (by decide)) je_int) ja_nil)) trivial))))))))))))
  case l1 =>
    show row.length ≤ 900
    rw [rl]
    show (lenF (cell ns 0)).toNat ≤ 900
    omega
  case l2 =>
    show ed.length ≤ 900
    rw [el]
    show (lenF (cell ns 0)).toNat ≤ 900
    omega
  case l3 =>
    show (KM.difs 0 row).length ≤ 900
    rw [KM.difs_len, rl]
    show (lenF (cell ns 0)).toNat + 1 ≤ 900
    omega
  case l4 =>
    show (spR bent (cell ns 11)).length ≤ 900
    rw [spR_len, bl]
    show (lenF (cell ns 0)).toNat + 2 ≤ 900
    omega
  case l5 =>
    show 0 < bent.length ∧ bent.length ≤ 1000
    rw [bl]
    show 0 < (lenF (cell ns 0)).toNat + 2 ∧ (lenF (cell ns 0)).toNat + 2 ≤ 1000
    omega
theorem bt {K : PySem.W.Frag} {mg : Str → Option Value} (T : Tx K mg) (s : Shared) (v : Value) : BindsTo s T.fd_law ⟨[v], []⟩ [("script", v)] := by
  obtain ⟨oc, od, kV, doc, pm, an, cdv, ct, osl, e, _⟩ := T.F_law.ex
  rw [e]
  exact BindsTo.of_eq rfl
theorem close {l : PySem.W.OpenLaw} {w : World} {K : PySem.W.Frag} {mg : Str → Option Value} {fa : Addr} (h : ∃ T : Tx K mg, mg "law" = some (.ref T.a_law)) (hm : mg "law" = some (.ref fa)) :
    ∃ fd : FuncData, (∀ (s : Shared) (v : Value), BindsTo s fd ⟨[v], []⟩ [("script", v)]) ∧ ∀ base : Heap, K.In base → base.Ns mainGlobals mg → FnOk l.prog w K mg base L2.CX0 10 fa fd ["script"] (sp_law K) := by
  obtain ⟨T, hl⟩ := h
  rw [hm] at hl
  cases hl
  exact ⟨T.fd_law, bt T, fun base _ _ => ok_law T⟩
end K02

open PySem PySem.W PyProof.Rows
set_option maxRecDepth 100000 in
set_option maxHeartbeats 0 in
theorem PySem.Challenge.cw_everybowl_k02_tables_there_and_back_holds : PySem.Challenge.rw_everybowl_k02_tables_there_and_back.Holds := by
  w_on; o_law; k_head; (case hw => w_witness2)
  k_fill
  refine EB.walk_ofX (l := PySem.Challenge.rw_everybowl_k02_tables_there_and_back) (n := 63) (k := 10) (x := "script") (CX := L2.CX0) (sp := K02.sp_law) rfl (by decide) rfl ⟨rfl, by decide, by decide⟩ (fun w h Y => PySem.W.kIn_of Y) ?F (fun _ _ a ns hl _ hS => K02.sp_start hl hS) (fun _ _ _ _ z => z)
  case F =>
    intro w mg fa h KX G LX hmg
    obtain ⟨tk_FARTHEST_ENTRY, n_FARTHEST_ENTRY⟩ := EB.loose_int (x := "FARTHEST_ENTRY") (i := 10000000000000000000000000000000000000000) LX (by simp)
    refine K02.close ?mk hmg
    case mk =>
      refine' K02.mk_tx KX G n_FARTHEST_ENTRY ?n_NoSize ?o_NoSize ?v_NoSize ?sa_NoSize ?sb_NoSize ?ty_NoSize ?kc_NoSize ?ii_NoSize ?ti_NoSize ?nf_NoSize ?ga_NoSize ?gt_NoSize ?hd_NoSize ?is_NoSize ?ca_NoSize ?mo_NoSize ?l_NoSize ?c_NoSize ?kp_NoSize ?n_TooFar ?o_TooFar ?v_TooFar ?sa_TooFar ?sb_TooFar ?ty_TooFar ?kc_TooFar ?ii_TooFar ?ti_TooFar ?nf_TooFar ?ga_TooFar ?gt_TooFar ?hd_TooFar ?is_TooFar ?ca_TooFar ?mo_TooFar ?l_TooFar ?c_TooFar ?kp_TooFar ?n_WrongCount ?o_WrongCount ?v_WrongCount ?sa_WrongCount ?sb_WrongCount ?ty_WrongCount ?kc_WrongCount ?ii_WrongCount ?ti_WrongCount ?nf_WrongCount ?ga_WrongCount ?gt_WrongCount ?hd_WrongCount ?is_WrongCount ?ca_WrongCount ?mo_WrongCount ?l_WrongCount ?c_WrongCount ?kp_WrongCount ?n_WrongRow ?o_WrongRow ?v_WrongRow ?sa_WrongRow ?sb_WrongRow ?ty_WrongRow ?kc_WrongRow ?ii_WrongRow ?ti_WrongRow ?nf_WrongRow ?ga_WrongRow ?gt_WrongRow ?hd_WrongRow ?is_WrongRow ?ca_WrongRow ?mo_WrongRow ?l_WrongRow ?c_WrongRow ?kp_WrongRow ?n_BowlError ?is_BowlError ?ty_BowlError ?gn ?tkc ?n__law_whole ?l__law_whole ?c__law_whole ?kp__law_whole ?n_check_size ?l_check_size ?c_check_size ?kp_check_size ?n_check_range ?l_check_range ?c_check_range ?kp_check_range ?n_first_behind ?l_first_behind ?c_first_behind ?kp_first_behind ?n_subset_list ?l_subset_list ?c_subset_list ?kp_subset_list ?n_subsets ?l_subsets ?c_subsets ?kp_subsets ?n__law_listed ?l__law_listed ?c__law_listed ?kp__law_listed ?n_choose ?l_choose ?c_choose ?kp_choose ?n__law_chosen ?l__law_chosen ?c__law_chosen ?kp__law_chosen ?n__law_grown ?l__law_grown ?c__law_grown ?kp__law_grown ?n__law_subsets_hold ?l__law_subsets_hold ?c__law_subsets_hold ?kp__law_subsets_hold ?n__law_cell ?l__law_cell ?c__law_cell ?kp__law_cell ?n__law_pascal ?l__law_pascal ?c__law_pascal ?kp__law_pascal ?n__law_choice_holds ?l__law_choice_holds ?c__law_choice_holds ?kp__law_choice_holds ?n_check_count ?l_check_count ?c_check_count ?kp_check_count ?n_check_row ?l_check_row ?c_check_row ?kp_check_row ?n_spread ?l_spread ?c_spread ?kp_spread ?n_gathered ?l_gathered ?c_gathered ?kp_gathered ?n_bare_gather ?l_bare_gather ?c_bare_gather ?kp_bare_gather ?n_gather ?l_gather ?c_gather ?kp_gather ?n_bends ?l_bends ?c_bends ?kp_bends ?n_unbend ?l_unbend ?c_unbend ?kp_unbend ?n__law_told ?l__law_told ?c__law_told ?kp__law_told ?n__law_totals ?l__law_totals ?c__law_totals ?kp__law_totals ?n__law_differences ?l__law_differences ?c__law_differences ?kp__law_differences ?n__law_moved ?l__law_moved ?c__law_moved ?kp__law_moved ?n__law_due ?l__law_due ?c__law_due ?kp__law_due ?n__law_sums_hold ?l__law_sums_hold ?c__law_sums_hold ?kp__law_sums_hold ?n__law_spoilt ?l__law_spoilt ?c__law_spoilt ?kp__law_spoilt ?n__law_back_holds ?l__law_back_holds ?c__law_back_holds ?kp__law_back_holds ?n__law_edged ?l__law_edged ?c__law_edged ?kp__law_edged ?n__law_row ?l__law_row ?c__law_row ?kp__law_row ?n__law_length ?l__law_length ?c__law_length ?kp__law_length ?n_law ?l_law ?c_law ?kp_law ?n_MOST_ENTRIES ?n_comb ?z_ValueError ?z_abs ?z_bool ?z_enumerate ?z_int ?z_isinstance ?z_len ?z_list ?z_max ?z_range ?z_sum ?z_tuple ?s_WrongCount_BowlError ?s_WrongCount_ValueError ?s_TooFar_BowlError ?s_TooFar_ValueError ?s_NoSize_BowlError ?s_NoSize_ValueError ?s_WrongRow_BowlError ?s_WrongRow_ValueError ?s_WrongCount_WrongCount ?s_WrongCount_TooFar ?s_WrongCount_WrongRow ?s_TooFar_TooFar ?s_TooFar_WrongCount ?s_TooFar_WrongRow ?s_WrongRow_WrongRow ?s_WrongRow_TooFar ?s_WrongRow_WrongCount ?s_TooFar_NoSize ?s_NoSize_NoSize ?s_NoSize_TooFar ?s_NoSize_WrongCount ?p_TooFar ?p_NoSize
      (case n_NoSize => k_is)
      (case o_NoSize => k_is)
      (case v_NoSize => exact (by decide +kernel))
      (case sa_NoSize => k_is)
      (case sb_NoSize => k_is)
      (case ty_NoSize => k_is)
      (case kc_NoSize => k_is)
      (case ii_NoSize => k_is)
      (case ti_NoSize => k_is)
      (case nf_NoSize => k_is)
      (case ga_NoSize => k_is)
      (case gt_NoSize => k_is)
      (case hd_NoSize => k_is)
      (case is_NoSize => k_is)
      (case ca_NoSize => k_is)
      (case mo_NoSize => k_is)
      (case l_NoSize => k_is)
      (case c_NoSize => k_is)
      (case kp_NoSize => k_is)
      (case n_TooFar => k_is)
      (case o_TooFar => k_is)
      (case v_TooFar => exact (by decide +kernel))
      (case sa_TooFar => k_is)
      (case sb_TooFar => k_is)
      (case ty_TooFar => k_is)
      (case kc_TooFar => k_is)
      (case ii_TooFar => k_is)
      (case ti_TooFar => k_is)
      (case nf_TooFar => k_is)
      (case ga_TooFar => k_is)
      (case gt_TooFar => k_is)
      (case hd_TooFar => k_is)
      (case is_TooFar => k_is)
      (case ca_TooFar => k_is)
      (case mo_TooFar => k_is)
      (case l_TooFar => k_is)
      (case c_TooFar => k_is)
      (case kp_TooFar => k_is)
      (case n_WrongCount => k_is)
      (case o_WrongCount => k_is)
      (case v_WrongCount => exact (by decide +kernel))
      (case sa_WrongCount => k_is)
      (case sb_WrongCount => k_is)
      (case ty_WrongCount => k_is)
      (case kc_WrongCount => k_is)
      (case ii_WrongCount => k_is)
      (case ti_WrongCount => k_is)
      (case nf_WrongCount => k_is)
      (case ga_WrongCount => k_is)
      (case gt_WrongCount => k_is)
      (case hd_WrongCount => k_is)
      (case is_WrongCount => k_is)
      (case ca_WrongCount => k_is)
      (case mo_WrongCount => k_is)
      (case l_WrongCount => k_is)
      (case c_WrongCount => k_is)
      (case kp_WrongCount => k_is)
      (case n_WrongRow => k_is)
      (case o_WrongRow => k_is)
      (case v_WrongRow => exact (by decide +kernel))
      (case sa_WrongRow => k_is)
      (case sb_WrongRow => k_is)
      (case ty_WrongRow => k_is)
      (case kc_WrongRow => k_is)
      (case ii_WrongRow => k_is)
      (case ti_WrongRow => k_is)
      (case nf_WrongRow => k_is)
      (case ga_WrongRow => k_is)
      (case gt_WrongRow => k_is)
      (case hd_WrongRow => k_is)
      (case is_WrongRow => k_is)
      (case ca_WrongRow => k_is)
      (case mo_WrongRow => k_is)
      (case l_WrongRow => k_is)
      (case c_WrongRow => k_is)
      (case kp_WrongRow => k_is)
      (case n_BowlError => k_is)
      (case is_BowlError => k_is)
      (case ty_BowlError => k_is)
      (case gn => k_is)
      (case tkc => k_is)
      (case n__law_whole => k_is)
      (case l__law_whole => k_is)
      (case c__law_whole => k_is)
      (case kp__law_whole => k_is)
      (case n_check_size => k_is)
      (case l_check_size => k_is)
      (case c_check_size => k_is)
      (case kp_check_size => k_is)
      (case n_check_range => k_is)
      (case l_check_range => k_is)
      (case c_check_range => k_is)
      (case kp_check_range => k_is)
      (case n_first_behind => k_is)
      (case l_first_behind => k_is)
      (case c_first_behind => k_is)
      (case kp_first_behind => k_is)
      (case n_subset_list => k_is)
      (case l_subset_list => k_is)
      (case c_subset_list => k_is)
      (case kp_subset_list => k_is)
      (case n_subsets => k_is)
      (case l_subsets => k_is)
      (case c_subsets => k_is)
      (case kp_subsets => k_is)
      (case n__law_listed => k_is)
      (case l__law_listed => k_is)
      (case c__law_listed => k_is)
      (case kp__law_listed => k_is)
      (case n_choose => k_is)
      (case l_choose => k_is)
      (case c_choose => k_is)
      (case kp_choose => k_is)
      (case n__law_chosen => k_is)
      (case l__law_chosen => k_is)
      (case c__law_chosen => k_is)
      (case kp__law_chosen => k_is)
      (case n__law_grown => k_is)
      (case l__law_grown => k_is)
      (case c__law_grown => k_is)
      (case kp__law_grown => k_is)
      (case n__law_subsets_hold => k_is)
      (case l__law_subsets_hold => k_is)
      (case c__law_subsets_hold => k_is)
      (case kp__law_subsets_hold => k_is)
      (case n__law_cell => k_is)
      (case l__law_cell => k_is)
      (case c__law_cell => k_is)
      (case kp__law_cell => k_is)
      (case n__law_pascal => k_is)
      (case l__law_pascal => k_is)
      (case c__law_pascal => k_is)
      (case kp__law_pascal => k_is)
      (case n__law_choice_holds => k_is)
      (case l__law_choice_holds => k_is)
      (case c__law_choice_holds => k_is)
      (case kp__law_choice_holds => k_is)
      (case n_check_count => k_is)
      (case l_check_count => k_is)
      (case c_check_count => k_is)
      (case kp_check_count => k_is)
      (case n_check_row => k_is)
      (case l_check_row => k_is)
      (case c_check_row => k_is)
      (case kp_check_row => k_is)
      (case n_spread => k_is)
      (case l_spread => k_is)
      (case c_spread => k_is)
      (case kp_spread => k_is)
      (case n_gathered => k_is)
      (case l_gathered => k_is)
      (case c_gathered => k_is)
      (case kp_gathered => k_is)
      (case n_bare_gather => k_is)
      (case l_bare_gather => k_is)
      (case c_bare_gather => k_is)
      (case kp_bare_gather => k_is)
      (case n_gather => k_is)
      (case l_gather => k_is)
      (case c_gather => k_is)
      (case kp_gather => k_is)
      (case n_bends => k_is)
      (case l_bends => k_is)
      (case c_bends => k_is)
      (case kp_bends => k_is)
      (case n_unbend => k_is)
      (case l_unbend => k_is)
      (case c_unbend => k_is)
      (case kp_unbend => k_is)
      (case n__law_told => k_is)
      (case l__law_told => k_is)
      (case c__law_told => k_is)
      (case kp__law_told => k_is)
      (case n__law_totals => k_is)
      (case l__law_totals => k_is)
      (case c__law_totals => k_is)
      (case kp__law_totals => k_is)
      (case n__law_differences => k_is)
      (case l__law_differences => k_is)
      (case c__law_differences => k_is)
      (case kp__law_differences => k_is)
      (case n__law_moved => k_is)
      (case l__law_moved => k_is)
      (case c__law_moved => k_is)
      (case kp__law_moved => k_is)
      (case n__law_due => k_is)
      (case l__law_due => k_is)
      (case c__law_due => k_is)
      (case kp__law_due => k_is)
      (case n__law_sums_hold => k_is)
      (case l__law_sums_hold => k_is)
      (case c__law_sums_hold => k_is)
      (case kp__law_sums_hold => k_is)
      (case n__law_spoilt => k_is)
      (case l__law_spoilt => k_is)
      (case c__law_spoilt => k_is)
      (case kp__law_spoilt => k_is)
      (case n__law_back_holds => k_is)
      (case l__law_back_holds => k_is)
      (case c__law_back_holds => k_is)
      (case kp__law_back_holds => k_is)
      (case n__law_edged => k_is)
      (case l__law_edged => k_is)
      (case c__law_edged => k_is)
      (case kp__law_edged => k_is)
      (case n__law_row => k_is)
      (case l__law_row => k_is)
      (case c__law_row => k_is)
      (case kp__law_row => k_is)
      (case n__law_length => k_is)
      (case l__law_length => k_is)
      (case c__law_length => k_is)
      (case kp__law_length => k_is)
      (case n_law => k_is)
      (case l_law => k_is)
      (case c_law => k_is)
      (case kp_law => k_is)
      (case n_MOST_ENTRIES => k_is)
      (case n_comb => k_is)
      (case z_ValueError => k_is)
      (case z_abs => k_is)
      (case z_bool => k_is)
      (case z_enumerate => k_is)
      (case z_int => k_is)
      (case z_isinstance => k_is)
      (case z_len => k_is)
      (case z_list => k_is)
      (case z_max => k_is)
      (case z_range => k_is)
      (case z_sum => k_is)
      (case z_tuple => k_is)
      (case s_WrongCount_BowlError => k_is)
      (case s_WrongCount_ValueError => k_is)
      (case s_TooFar_BowlError => k_is)
      (case s_TooFar_ValueError => k_is)
      (case s_NoSize_BowlError => k_is)
      (case s_NoSize_ValueError => k_is)
      (case s_WrongRow_BowlError => k_is)
      (case s_WrongRow_ValueError => k_is)
      (case s_WrongCount_WrongCount => k_is)
      (case s_WrongCount_TooFar => k_is)
      (case s_WrongCount_WrongRow => k_is)
      (case s_TooFar_TooFar => k_is)
      (case s_TooFar_WrongCount => k_is)
      (case s_TooFar_WrongRow => k_is)
      (case s_WrongRow_WrongRow => k_is)
      (case s_WrongRow_TooFar => k_is)
      (case s_WrongRow_WrongCount => k_is)
      (case s_TooFar_NoSize => k_is)
      (case s_NoSize_NoSize => k_is)
      (case s_NoSize_TooFar => k_is)
      (case s_NoSize_WrongCount => k_is)
      (case p_TooFar => k_is)
      (case p_NoSize => k_is)

