import PyProof.Rows.All
import Wide.All
import OpenK.AllK
import Wide.FinOn
import HandS.ForMost
import HandS.ForExc
import HandS.Evl
import HandS.Star
import HandS.ExcInit
import HandS.ExcField
import HandS.IsInst
import HandS.Conv
import HandS.Flow
import HandS.ClsMeth
import HandS.CallSlots
import HandS.TryMany
import KE.KExcIs
import KE.GoesMore
import HandS.Wide
import HandS.OwnEq
import HandS.Style
import HandS.SetFor
import HandS.TupAny
import HandS.NoneIn
import KE.KMathGC
import PySem.Challenge.RW_everybowl_k12_parity_of_convex_fours
set_option Elab.async false
set_option linter.all false
set_option maxRecDepth 100000
set_option maxHeartbeats 4000000
/-! EB: own layer: values as data (PV), what gives them (EvP), promises that may raise (SpX), several named except clauses. -/
namespace EB
open PySem PySem.Spec PyProof.Rows L2 Evl
/-! ### several clauses, each with a name of its own -/
/-- what the clauses want of an exception out of the body: class, slot of the name, suite -/
def wClauses (K : PySem.W.Frag) (Wo : WX) (D : Ends) : List (Value × Nat × (Addr → Value → Option Addr → TS)) → WX
  | [] => Wo
  | (c, i, ts) :: r => fun cls d σ H => ∃ b, PySem.W.exmOne K cls c = some b ∧
      (b = true → ∀ a, H a = none → ts a cls d { nx := fun σ' H' => D.nx (σ'.set i none) H', rt := D.rt, bk := fun σ' H' => D.bk (σ'.set i none) H', ct := fun σ' H' => D.ct (σ'.set i none) H' } (σ.set i (some (.ref a))) H) ∧
      (b = false → wClauses K Wo D r cls d σ H)
inductive Clauses (X : Cx) : List ExceptHandler → List (Value × Nat × (Addr → Value → Option Addr → TS)) → Prop
  | nil : Clauses X [] []
  | cons {x n : Str} {c : Value} {i : Nat} {ts : Addr → Value → Option Addr → TS} {st0 : Stmt} {more : List Stmt} {p1 p2 : Pos} {hl : List ExceptHandler} {l : List (Value × Nat × (Addr → Value → Option Addr → TS))}
      (nm : Names X x c) (at_ : X.N[i]? = some n) (lc : X.env.kindOf n = some .local)
      (body : ∀ (a : Addr) (ob : Obj) (cls : Value) (d : Option Addr) (pn : List (Addr × Obj)), Zc cls d ob → (∃ vs, ob.data = .fields vs) → PSs (X.suite a ((a, ob) :: pn)) (st0 :: more) (ts a cls d))
      (rest : Clauses X hl l) : Clauses X (.ExceptHandler (some (.Name x p1)) (some n) (st0 :: more) p2 :: hl) ((c, i, ts) :: l)
section
variable {X : Cx} {body : List Stmt} {h0 : ExceptHandler} {hl : List ExceptHandler} {l : List (Value × Nat × (Addr → Value → Option Addr → TS))} {pos : Pos} {tb : WX → TS} {Wo : WX}
theorem ps_try_named (eS : X.stack = X.env :: X.outer) (eF : X.env.frame = some X.env.locals) (nd : X.N.Nodup) (tk : Takes X Wo)
    (hb : ∀ (W : WX) (pn : List (Addr × Obj)) (xe : Value → Shared → Prop), Takes (X.tr pn xe) W → PassesOwn (model X.prog X.w) X.A X.env xe → PSs (X.tr pn xe) body (tb W))
    (hh : Clauses X (h0 :: hl) l) : PS X (.Try body (h0 :: hl) [] [] pos) (fun D σ H => tb (wClauses X.K Wo D l) D σ H) := by
  refine ⟨fun pins s σ H D I hyp => ?_⟩
  have okX := I.ok
  have eFr : X.A.frames = some (X.env :: X.outer) := by rw [okX.frames, eS]
  refine wpAny_Try_except ?_
  refine wpAny_mono ((hb (wClauses X.K Wo D l) (X.pn ++ pins) (fun ev t1 => wpAny (model X.prog X.w) X.A (noteFrame ev X.env) (fun _ t2 => wpAny (model X.prog X.w) X.A (setFlight ev none) (fun _ t3 =>
    wpAny (model X.prog X.w) X.A (handleBy ev X.env (h0 :: hl)) (SP X pins D) X.xe t3) X.xe t2) X.xe t1) (fun u t xx => ?_) PassesOwn.looking).run [] s σ H D (I.toTry _) hyp) (fun fl t hsp => ?_) (fun _ _ z => z)
  · obtain ⟨a, B, tI, pins1, σ1, H1, cls, d, rfl, J0, keepB, upS, sky0, freeA, osE, bareE, wish⟩ := xx
    have J : Inv X pins σ1 H1 tI := J0.ofTry okX
    have sky1 : Sky B (X.env :: X.outer) a (Zc cls d) X.env.locals t.heap := by rw [← eS] <;> exact sky0
    show wpAny (model X.prog X.w) X.A (noteFrame (.ref a) X.env) _ _ _
    refine Sky.land Zc.steady eFr eF sky1 fun g3 f3 u3 => ?_
    have K3 : Inv X pins σ1 H1 { t with heap := g3 } := J.landed keepB f3.1 (upS.trans u3) osE bareE
    obtain ⟨ob3, fv3, at3, zc3, dat3⟩ := f3.there
    have off : a ∉ frs (X.env :: X.outer) := fun hm => by
      obtain ⟨_, o', e', hnf⟩ := f3.2.2.1.mem hm
      rw [at3] at e'
      cases e'
      exact hnf _ dat3
    have offL : a ≠ X.env.locals := fun z => off (List.mem_filterMap.mpr ⟨X.env, List.mem_cons_self, by rw [eF, z]⟩)
    have offF : a ∉ X.fs := fun hm => by
      obtain ⟨ee, he, q⟩ := List.mem_filterMap.mp hm
      exact off (List.mem_filterMap.mpr ⟨ee, List.mem_cons_of_mem _ he, q⟩)
    have S3 := K3.suite at3 dat3 freeA offL offF
    have run : ∀ {hl' : List ExceptHandler} {l' : List (Value × Nat × (Addr → Value → Option Addr → TS))}, Clauses X hl' l' → wClauses X.K Wo D l' cls d σ1 H1 →
        wpAny (model X.prog X.w) X.A (handleBy (.ref a) X.env hl') (SP X pins D) X.xe { t with heap := g3 } := by
      intro hl' l' hk
      induction hk with
      | nil =>
        intro wsh
        refine wpAny_handleBy_nil ?_
        obtain ⟨q1, q2, q3, ob, fv, T, oT, tsl, hat, hzc, hdat, hone, hr⟩ := id f3
        unfold PySem.passOn
        refine wpAny_bind (wpAny_field hat hdat hone ?_)
        rw [if_neg (show ¬ ((Value.ref T == Value.none) = true) by simp)]
        have last : wpAny (model X.prog X.w) X.A (setFlight (.ref a) X.env.frame) (fun _ t4 => wpAny (model X.prog X.w) X.A (throw (.ref a) : Sem Flow) (SP X pins D) X.xe t4) X.xe { t with heap := g3 } := by
          rw [eF]
          refine HandSPX.setFlight_upZ f3 fun g4 hh4 u4 => wpAny_throw (tk _ _ ⟨a, B, tI, pins, σ1, H1, cls, d, rfl, J, keepB, (upS.trans u3).trans u4, .inr (.inr (by rw [eS] <;> exact hh4)), freeA, osE, bareE, wsh⟩)
        first
          | exact wpAny_bind (wpAny_pure (wpAny_bind last))
          | exact wpAny_bind last
      | @cons x n c i ts st0 more p1 p2 hl2 l2 nm at_ lc bod rest ih =>
        intro wsh
        obtain ⟨b, isB, yes, no⟩ := wsh
        refine wpAny_handleBy_cons (codeAny_handlers_test ?_) (by intro q; cases q)
        have lookT : PySem.W.Looks (model X.prog X.w) g3 (typeOf (.ref a)) cls := fun _ _ _ _ k q => wpAny_typeOf_ref (k _ _ at3) (by rw [zc3.1] <;> exact q)
        have lookM := PySem.W.exm_one (M := model X.prog X.w) K3.kIn lookT isB
        have ask : ∀ {Q : Value → Shared → Prop} {E : Value → Shared → Prop}, Q c { t with heap := g3 } → wpAny (model X.prog X.w) (X.A.mark (some (.ref a))) (eval (.Name x p1) X.env) Q E { t with heap := g3 } := fun {Q E} q => by
          obtain ⟨gl, dbg, hm | ⟨hm, hv, hnn⟩⟩ := nm
          · exact ld_glob (X := X.suite a ((a, ob3) :: (X.pn ++ pins))) S3 gl hm q dbg
          · exact ld_blt (X := X.suite a ((a, ob3) :: (X.pn ++ pins))) S3 gl hm hv q hnn dbg
        refine ask (lookM.here ?_)
        cases b with
        | true =>
          refine codeAny_handlers_suite_as (HandSPX.lands_againZ f3 fun g4 f4 u4 => ?_)
          have K4 : Inv X pins σ1 H1 { t with heap := g4 } := J.landed keepB f4.1 ((upS.trans u3).trans u4) osE bareE
          obtain ⟨ob4, fv4, at4, zc4, dat4⟩ := f4.there
          have S4 := K4.suite at4 dat4 freeA offL offF
          refine store_ok (X := X.suite a ((a, ob4) :: (X.pn ++ pins))) (v := .ref a) S4 nd at_ (.inl lc) rfl (fun t5 S5 => ?_) (.inr lc)
          refine wpAny_mono ((bod a ob4 cls d (X.pn ++ pins) zc4 ⟨_, dat4⟩).run [] t5 _ H1 _ S5 (yes rfl a freeA)) (fun fl t6 hsp => ?_) (fun _ _ z => False.elim z)
          have fin6 : ∀ {σ6 : L2.St} {H6 : Hp} {Q : Shared → Prop}, Inv (X.suite a ((a, ob4) :: (X.pn ++ pins))) [] σ6 H6 t6 → (∀ t7, Inv X pins (σ6.set i none) H6 t7 → Q t7) →
              wpAny (model X.prog X.w) X.A (do bindName X.env n .none; unbindBehindTheSuite X.env n p2) (fun _ t7 => Q t7) X.xe t6 := fun S6 hq => gone_ok (S6.unsuite okX) nd at_ lc hq
          cases fl with
          | next =>
            obtain ⟨σ6, H6, S6, q6⟩ := hsp
            exact fin6 S6 fun t7 J7 => ⟨_, _, J7, q6⟩
          | brk =>
            obtain ⟨σ6, H6, S6, q6⟩ := hsp
            exact fin6 S6 fun t7 J7 => ⟨_, _, J7, q6⟩
          | cont =>
            obtain ⟨σ6, H6, S6, q6⟩ := hsp
            exact fin6 S6 fun t7 J7 => ⟨_, _, J7, q6⟩
          | ret u6 =>
            obtain ⟨v6, σ6, H6, S6, r6, q6⟩ := hsp
            exact fin6 S6 fun t7 J7 => ⟨_, _, _, J7, r6, q6⟩
        | false =>
          show wpAny _ X.A (handleBy (.ref a) X.env hl2) _ _ _
          exact ih (no rfl)
    exact run hh wish
  · cases fl with
    | next =>
      obtain ⟨σ1, H1, J, q⟩ := hsp
      exact wpAny_execs_nil ⟨σ1, H1, J.ofTry okX, q⟩
    | brk =>
      obtain ⟨σ1, H1, J, q⟩ := hsp
      exact ⟨σ1, H1, J.ofTry okX, q⟩
    | cont =>
      obtain ⟨σ1, H1, J, q⟩ := hsp
      exact ⟨σ1, H1, J.ofTry okX, q⟩
    | ret u1 =>
      obtain ⟨v1, σ1, H1, J, rv, q⟩ := hsp
      exact ⟨v1, σ1, H1, J.ofTry okX, rv, q⟩
end
/-! ### isinstance of an exception that a suite holds (it may have a dict of its own) -/
structure ExK (K : PySem.W.Frag) (C : Addr) : Prop where
  cl : (PySem.W.clsIn K C).isSome = true
  ga : PySem.W.findIn K (.ref C) "__getattribute__" = some (some (.builtin "BaseException.__getattribute__"))
  gt : PySem.W.findIn K (.ref C) "__getattr__" = some none
  sb : PySem.W.subIn K (.ref C) (.type "BaseException") = some true
  ca : PySem.W.findIn K (.ref C) "__class__" = some (some (.builtin "object.__class__"))
  gn : PySem.W.specialIn K (.builtin "object.__class__") "__get__" = some (some (.builtin "getset_descriptor.__get__"))
  tk : PySem.W.takesIn K (.builtin "object.__class__") = some true
  mo : PySem.W.mroIn K C (.type "object") = some true
/-- isinstance(e, c): a the exception, cls its class, d its dict -/
def rIsEx (K : PySem.W.Frag) (a : Addr) (cls : Value) (d : Option Addr) : List V → Hp → VK → Prop := fun xs H Q => ∃ (C : Addr) (c : V) (cv : Value) (b : Bool) (dd : Addr) (fs : List (Str × V)), cls = .ref C ∧ ExK K C ∧ xs = [.ref a, c] ∧ d = some dd ∧ H dd = some (.xd fs) ∧ ClsV c cv ∧ PySem.W.kitOne K (.ref C) cv = some b ∧ Q (.bl b) H
/-- isinstance(e, (c1, c2, ..)) -/
def rIsExT (K : PySem.W.Frag) (a : Addr) (cls : Value) (d : Option Addr) : List V → Hp → VK → Prop := fun xs H Q => ∃ (C : Addr) (tp : Addr) (cs : List V) (us : List Value) (b : Bool) (dd : Addr) (fs : List (Str × V)), cls = .ref C ∧ ExK K C ∧ xs = [.ref a, .ref tp] ∧ d = some dd ∧ H dd = some (.xd fs) ∧ H tp = some (.tup cs) ∧ Paired ClsV cs us ∧ PySem.W.kitAny K (.ref C) us = some b ∧ Q (.bl b) H
section
variable {X : Cx} {a C : Addr} {cls : Value} {d : Option Addr} {ob : Obj} {pn : List (Addr × Obj)}
theorem inst_here {pins : List (Addr × Obj)} {σ : L2.St} {H : Hp} {s : Shared} {dd : Addr} {fs : List (Str × V)} (hz : Zc (.ref C) d ob) (hf : ∃ vs, ob.data = .fields vs) (I : Inv (X.suite a ((a, ob) :: pn)) pins σ H s) (ed : d = some dd) (hd : H dd = some (.xd fs)) : ∃ od, PySem.W.InstAt s.heap a ob C (some od) := by
  subst ed
  obtain ⟨vs, hv⟩ := hf
  obtain ⟨got, _⟩ := I.pin (a, ob) (List.mem_append_left _ List.mem_cons_self)
  obtain ⟨mA, hns, _⟩ := (show ObjOk X.prog X.w H s.heap dd (.xd fs) from I.hok dd _ hd)
  obtain ⟨od, ho, _⟩ := lookIn_ns hns
  exact ⟨od, got, hz.1, by unfold PySem.W.notCls; rw [hv] <;> rfl, by rw [hz.2] <;> exact ho⟩
theorem call_isEx (hz : Zc cls d ob) (hf : ∃ vs, ob.data = .fields vs) : CallR (X.suite a ((a, ob) :: pn)) (.builtin "isinstance") (rIsEx X.K a cls d) := by
  intro pins s σ H xs us Q I r h
  obtain ⟨C, c, cv, b, dd, fs, rfl, T, rfl, ed, hd, hc, e, q⟩ := h
  obtain ⟨u1, u2, rfl, r1, r2⟩ := vals2 r
  cases (show u1 = Value.ref a from r1)
  have e2 := hc.eq r2
  subst e2
  obtain ⟨od, J⟩ := inst_here hz hf I ed hd
  exact PySem.W.kia_one (PySem.W.kitx_exc T.cl T.ga T.gt T.sb T.ca T.gn T.tk T.mo) I.kIn J e (fun z => nomatch z) fun tk => ⟨.bl b, H, I.tok tk, rfl, q⟩
theorem call_isExT (hz : Zc cls d ob) (hf : ∃ vs, ob.data = .fields vs) : CallR (X.suite a ((a, ob) :: pn)) (.builtin "isinstance") (rIsExT X.K a cls d) := by
  intro pins s σ H xs us Q I r h
  obtain ⟨C, tp, cs, ws, b, dd, fs, rfl, T, rfl, ed, hd, hT, hc, e, q⟩ := h
  obtain ⟨u1, u2, rfl, r1, r2⟩ := vals2 r
  cases (show u1 = Value.ref a from r1)
  cases (show u2 = Value.ref tp from r2)
  obtain ⟨od, J⟩ := inst_here hz hf I ed hd
  obtain ⟨_, its, rv, ot, g1, g2, n, g3⟩ := (show ObjOk X.prog X.w H s.heap tp (.tup cs) from I.hok tp _ hT)
  have e3 := ClsV.all hc rv
  subst e3
  obtain ⟨oc, odd, dt, sl⟩ := ot
  simp only at g2 g3
  subst g2 g3
  exact PySem.W.kia_tup (PySem.W.kitx_exc T.cl T.ga T.gt T.sb T.ca T.gn T.tk T.mo) I.kIn J g1 e (fun z => nomatch z) fun tk => ⟨.bl b, H, I.tok tk, rfl, q⟩
end
end EB

/-! EB2: enumerate over a tuple. -/
namespace EB
open PySem PySem.Spec PyProof.Rows L2 Evl
open AutoSeq1 (wpAny_loadPart')
theorem enumT_new (t : Addr) (ob : Obj) (xs : Array Value) (k : Nat) (hc : ob.cls = .type "tuple") (hd : ob.data = .seq xs k) :
    Meets (Builtin.«enumerate.__new__» ⟨[.type "enumerate", .ref t], []⟩) (fun _ R s => s.heap.get? t = some ob ∧
      R (.ok (.ret (.ref (s.heap.push { cls := .type "tuple_iterator", data := .fields #[.ref t, .int 0 0] }).objs.size)))
        { s with heap := (s.heap.push { cls := .type "tuple_iterator", data := .fields #[.ref t, .int 0 0] }).push { cls := .type "enumerate", data := .fields #[.none, .bool false, .ref s.heap.objs.size, rawInt 0, .none, .none] } }) :=
  .of_wp fun prog w A R s h => by
    obtain ⟨hp, g, d, tk, os⟩ := s
    obtain ⟨ht, h⟩ := h
    have sub_ := sub_enumerate
    have hT : Heap.IsTuple (Shared.heap ⟨hp, g, d, tk, os⟩) t xs := ⟨_, ht, hc, k, hd⟩
    wp_walk using wpAny_loadPart' ht
    refine wpAny_stack_any fun st => wpAny_pure ?_
    split
    · rename_i c _ _ _ _ _
      cases (c == Value.type "enumerate")
      · wp_walk using wpAny_loadPart' ht, wpAny_pyIter_tuple hT
        exact ⟨_, rfl, h⟩
      · wp_walk using wpAny_loadPart' ht, wpAny_pyIter_tuple hT
        exact ⟨_, rfl, h⟩
    · wp_walk using wpAny_loadPart' ht, wpAny_pyIter_tuple hT
      exact ⟨_, rfl, h⟩
section
variable {prog : Program} {w : World} {A : Around} {E : Value → Shared → Prop} {s : Shared}
theorem enumT_call {t : Addr} {xs : Array Value} {Q : Value → Shared → Prop} (hT : s.heap.IsTuple t xs)
    (fin : ∀ g, IsEnum g (s.heap.objs.size + 1) s.heap.objs.size 0 .none → g.IsTupleIter s.heap.objs.size t 0 → g.objs.size = s.heap.objs.size + 2 →
      (∀ b o, s.heap.get? b = some o → g.get? b = some o) → Q (.ref (s.heap.objs.size + 1)) { s with heap := g }) :
    wpAny (model prog w) A (call (.type "enumerate") [.ref t]) Q E s := by
  obtain ⟨ob, ht, hc, k, hd⟩ := hT
  refine callType_new F.called_enumerate (by decide) (F.typeCall_enumerate_1 _) (F.newCall_enumerate_1 _) (fun z => F.args_object_init_2 z _) F.entry_enumerate_new (enumT_new t ob xs k hc hd) ⟨ht, ?_⟩
  have sz : (s.heap.push { cls := .type "tuple_iterator", data := .fields #[.ref t, .int 0 0] }).objs.size = s.heap.objs.size + 1 := Heap.size_push ..
  show _ ∧ _
  rw [sz]
  have en : IsEnum ((s.heap.push { cls := .type "tuple_iterator", data := .fields #[.ref t, .int 0 0] }).push
      { cls := .type "enumerate", data := .fields #[.none, .bool false, .ref s.heap.objs.size, rawInt 0, .none, .none] }) (s.heap.objs.size + 1) s.heap.objs.size 0 .none := by
    have z := Heap.get?_push_size (s.heap.push { cls := .type "tuple_iterator", data := .fields #[.ref t, .int 0 0] })
      (o := { cls := .type "enumerate", data := .fields #[.none, .bool false, .ref s.heap.objs.size, rawInt 0, .none, .none] }) rfl
    rw [sz] at z
    exact z
  refine ⟨⟨_, en, rfl⟩, fin _ en ⟨_, Heap.get?_push_of_some _ (Heap.get?_push_size _ rfl), rfl, rfl⟩ (by rw [Heap.size_push, sz]) fun b o x => Heap.get?_push_of_some _ (Heap.get?_push_of_some _ x)⟩
end
/-- the tuple at a, each item in a new pair -/
def IteT (K : PySem.W.Frag) (a : Addr) : It :=
  ⟨fun i H => ∃ (xs : List V) (x : V), SqT K H a xs ∧ xs[i]? = some x, fun i H v H' => ∃ T x, v = .ref T ∧ H T = none ∧ H' = upd H T (.tup [.int (i : Nat), x]) ∧ ∀ xs, SqT K H a xs → xs[i]? = some x, fun i H => ∃ xs : List V, SqT K H a xs ∧ xs.length ≤ i⟩
theorem tup_inj {X : Cx} {pins : List (Addr × Obj)} {σ : L2.St} {H : Hp} {s : Shared} {a : Addr} {xs ys : List V} (I : Inv X pins σ H s) (h : SqT X.K H a xs) (h2 : SqT X.K H a ys) : xs = ys := by
  first
    | exact I.tuple_inj h h2
    | exact I.tup_inj h h2
theorem turn_enumT {P : Program} {w : World} {K : PySem.W.Frag} {elts : List Expr} {kk : Nat} {tpos : Pos} (a e it : Addr) :
    Turn P w K (.Tuple elts kk tpos) (IteT K a) [e, it] e (fun i h => (∃ old, IsEnum h e it ((i : Nat) : Int) old) ∧ h.IsTupleIter it a i ∧ e ≠ it) where
  mem := by simp
  obj := fun i h st b hb => by
    obtain ⟨⟨old, he⟩, ⟨o, ho, hc, hd⟩, _⟩ := st
    have z : b = e ∨ b = it := by simpa using hb
    rcases z with z | z
    · rw [z]
      exact ⟨_, he, fun v q => nomatch q⟩
    · rw [z]
      exact ⟨o, ho, fun v q => by rw [hd] at q <;> cases q⟩
  keep := fun i h g st k => let ⟨⟨old, he⟩, hi, hne⟩ := st; ⟨⟨old, k e (by simp) _ he⟩, hi.at fun o q => k it (by simp) o q, hne⟩
  item := by
    intro X hP hw hK hcalm i pins s σ H E I hf st hg
    subst hP hw hK
    obtain ⟨⟨old, he⟩, hit, hne⟩ := st
    obtain ⟨xs, x, hq, hx⟩ := hg
    obtain ⟨its, rv, p, hz⟩ := I.tuple hq
    obtain ⟨u, hu, ru⟩ := rv.get hx
    have eLt : e < s.heap.objs.size := Heap.lt_size he
    have iLt : it < s.heap.objs.size := by
      obtain ⟨_, q, _⟩ := hit
      exact Heap.lt_size q
    have hT : s.heap.IsTuple a its.toArray := p
    have nea : a ≠ it := by
      intro z
      obtain ⟨o1, h1, c1, _⟩ := hit
      obtain ⟨o2, h2, c2, _⟩ := hT
      rw [z, h1] at h2
      cases h2
      rw [c1] at c2
      exact absurd c2 (by decide)
    have nef : e ∉ [it, a] := by
      intro z
      rcases List.mem_cons.mp z with z | z
      · exact hne z
      · have z' : e = a := by simpa using z
        obtain ⟨o2, h2, c2, _⟩ := hT
        rw [← z', he] at h2
        cases h2
        exact absurd (show Value.type "enumerate" = Value.type "tuple" from c2) (by decide)
    have ilt : i < its.toArray.size := by
      have := (List.getElem?_eq_some_iff.mp hu).1
      simpa using this
    refine wpAny_pyNext_enum_itemD (PySem.Draws.tuple (A := X.A.in1) (I.ok.hd hcalm) it a nea its.toArray) he ⟨hit, hT⟩ ilt hne nef fun y g tk hy ho hst hTT hsz hk => ?_
    have ey : y = u := by
      have z : its.toArray[i]? = some u := by simpa using hu
      have hy' : its.toArray[i]? = some y := hy
      rw [z] at hy'
      exact (Option.some.inj hy').symm
    subst ey
    refine ⟨_, rfl, wpAny_letOwnedTupleGo_enum (s := { s with heap := g, toks := tk + 1 }) ho fun g2 he2 sb => ?_⟩
    have hT2 : g2.get? s.heap.objs.size = some { cls := .type "tuple", data := .seq #[.int i tk, y] } := (sb.2 _ (Nat.ne_of_gt eLt)).trans hTT
    have new : ObjOk X.prog X.w (upd H s.heap.objs.size (.tup [.int (i : Nat), x])) g2 s.heap.objs.size (.tup [.int (i : Nat), x]) :=
      ⟨by show 2 ≤ sizeLine; decide, [.int i tk, y], .cons ⟨_, rfl⟩ (.cons ru .nil), ⟨_, hT2, rfl, _, rfl⟩⟩
    have I1 : Inv X pins σ (upd H s.heap.objs.size (.tup [.int (i : Nat), x])) { s with heap := g2, toks := tk + 1 } :=
      I.turnedNew (ch := [e, it]) (fun b ob hb q => (sb.2 b (fun z => hb (by simp [z]))).trans (hk b ob (fun z => hb (by simp [z])) (fun z => hb (by simp [z])) q)) hf (Nat.le_refl _) new
    refine ⟨.ref s.heap.objs.size, _, I1, rfl, ⟨_, x, rfl, I.hok.fresh (Nat.le_refl _), rfl, fun ys hy => by rw [tup_inj I hy hq] <;> exact hx⟩, ⟨⟨y, ?_⟩, hst.1.at fun o q => (sb.2 it (Ne.symm hne)).trans q, hne⟩, fun b hb => ?_⟩
    · have e1 : ((i + 1 : Nat) : Int) = (i : Int) + 1 := by omega
      rw [e1]
      exact he2
    · have hb2 : b < s.heap.objs.size := by
        have z : b = e ∨ b = it := by simpa using hb
        rcases z with z | z
        · rw [z]; exact eLt
        · rw [z]; exact iLt
      rw [upd_ne (Nat.ne_of_lt hb2)]
      exact (hf b hb).1
  done := by
    intro X hP hw hK hcalm i pins s σ H E I hf st hg
    subst hP hw hK
    obtain ⟨⟨old, he⟩, hit, hne⟩ := st
    obtain ⟨xs, hq, hx⟩ := hg
    obtain ⟨its, rv, p, hz⟩ := I.tuple hq
    obtain ⟨f0, f1, f2, f3, f4, f5⟩ := hf it (by simp)
    have hl := rv.length
    have hT : s.heap.IsTuple a its.toArray := p
    have nea : a ≠ it := by
      intro z
      obtain ⟨o1, h1, c1, _⟩ := hit
      obtain ⟨o2, h2, c2, _⟩ := hT
      rw [z, h1] at h2
      cases h2
      rw [c1] at c2
      exact absurd c2 (by decide)
    unfold pyNext
    have hTy : s.TypeIs (.ref e) "enumerate" := ⟨_, he, rfl⟩
    refine wpAny_bind (wpAny_attempt (wpAny_callSpecial?_slot (name := Str.ofString "__next__") hTy F.slot_enumerate_next
      (wpAny_call_entry F.slot_enumerate_next hTy F.entry_enumerate_next ?_ (F.args_enumerate_next_1 _))))
    show wpAny _ _ (field (.ref e) 2 >>= _) _ _ _
    refine wpAny_bind (wpAny_field he rfl (x := .ref it) rfl ?_)
    refine wpAny_bind (wpAny_nextOf_tuple_end (I.ok.hd hcalm) hit hT (by simp; omega) fun g x he' hx' => ?_)
    obtain ⟨o, ho, hc⟩ := hx'
    refine wpAny_bind (wpAny_isInstance (T := "StopIteration") (b := true) ⟨o, ho, hc⟩ isSubtype_stop ?_)
    exact wpAny_pure ⟨rfl, I.turned (t' := s.toks) (fun b o hb q => he' b o hb q) f0 f1 f3 f4 f5⟩
  self := fun A i s Q E st h => let ⟨⟨_, he⟩, _⟩ := st; wpAny_pyIter_enum he h
def iEnumT (K : PySem.W.Frag) (ta : TA) : TI := fun σ H R => ta σ H fun vs H1 => ∃ a xs, vs = [.ref a] ∧ SqT K H1 a xs ∧ R (IteT K a) H1
theorem pi_enumT {X : Cx} {e : Expr} {ta : TA} {p pos tpos : Pos} {elts : List Expr} {kk : Nat} (hg : Gl X "enumerate") (hm : X.mg "enumerate" = none) (ha : PA X [e] ta) (hs : starEach [e] X.env = [(false, eval e X.env)] := by rfl) :
    PI X (.Tuple elts kk tpos) (.Call (.Name "enumerate" p) [e] [] pos) (iEnumT X.K ta) := by
  refine ⟨fun pins s σ H R I h => ?_⟩
  refine Call_ (ld_blt I hg hm boot_enumerate (PyProof.Rows.callWith_type1 (thn (ha.run pos pins s σ H _ I h) fun us s1 ⟨vs, H1, I1, r1, a, xs, ex, hq, q⟩ => ?_) hs rfl))
  subst ex
  cases r1 with
  | cons r rr =>
    cases rr
    cases r
    obtain ⟨its, rv, p', hz⟩ := I1.tuple hq
    have hT : s1.heap.IsTuple a its.toArray := p'
    refine enumT_call hT fun g he hit hsz hk => wpAny_pyIter_enum he ?_
    have I2 : Inv X pins σ H1 { s1 with heap := g } := I1.kept (t' := s1.toks) hk
    refine ⟨s1.heap.objs.size + 1, [s1.heap.objs.size + 1, s1.heap.objs.size], _, _, H1, rfl, I2, turn_enumT a (s1.heap.objs.size + 1) s1.heap.objs.size, ⟨⟨.none, he⟩, hit, Nat.succ_ne_self _⟩, fun b hb => ?_, q⟩
    have hle : s1.heap.objs.size ≤ b := by
      have z : b = s1.heap.objs.size + 1 ∨ b = s1.heap.objs.size := by simpa using hb
      rcases z with z | z
      · rw [z]
        exact Nat.le_add_right _ _
      · rw [z]
        exact Nat.le_refl _
    exact I1.fpOk hle (I1.hok.fresh hle)
end EB

/-! EB3: what is known of the slots (Kn), what an expression comes to (JE), a test (JT), arguments (JA), a statement (JS). -/
namespace EB
open PySem PySem.Spec PyProof.Rows L2 Evl
/-- what is known of a value; it stays known while the heap grows -/
structure PV where
  p : Hp → V → Prop
  mn : ∀ {H H' : Hp} {v : V}, Ex H H' → p H v → p H' v
abbrev Kn := List (Option PV)
mutual
theorem dp_mono {K : PySem.W.Frag} {H H' : Hp} (e : Ex H H') : ∀ {v : V} {d : PyData}, Dp K H v d → Dp K H' v d
  | _, _, .non => .non
  | _, _, .bl b => .bl b
  | _, _, .int i => .int i
  | _, _, .str x => .str x
  | _, _, .lst h a => .lst (ex_l e h) (dpAll_mono e a)
  | _, _, .tup h a => .tup (ex_t e h) (dpAll_mono e a)
theorem dpAll_mono {K : PySem.W.Frag} {H H' : Hp} (e : Ex H H') : ∀ {vs : List V} {ds : List PyData}, DpAll K H vs ds → DpAll K H' vs ds
  | _, _, .nil => .nil
  | _, _, .cons h t => .cons (dp_mono e h) (dpAll_mono e t)
end
def dv (K : PySem.W.Frag) (d : PyData) : PV := ⟨fun H v => Dp K H v d, fun e h => dp_mono e h⟩
/-- exactly this value -/
def xv (v : V) : PV := ⟨fun _ u => u = v, fun _ h => h⟩
theorem dp_int {K : PySem.W.Frag} {H : Hp} {v : V} {i : Int} (h : Dp K H v (.int i)) : v = .int i := by cases h; rfl
theorem dp_bl {K : PySem.W.Frag} {H : Hp} {v : V} {b : Bool} (h : Dp K H v (.bool b)) : v = .bl b := by cases h; rfl
theorem dp_str {K : PySem.W.Frag} {H : Hp} {v : V} {x : Str} (h : Dp K H v (.str x)) : v = .str x := by cases h; rfl
theorem dp_tup {K : PySem.W.Frag} {H : Hp} {v : V} {ds : List PyData} (h : Dp K H v (.tuple ds)) : ∃ a xs, v = .ref a ∧ SqT K H a xs ∧ DpAll K H xs ds := by
  cases h with
  | tup h a => exact ⟨_, _, rfl, h, a⟩
theorem dp_lst {K : PySem.W.Frag} {H : Hp} {v : V} {ds : List PyData} (h : Dp K H v (.list ds)) : ∃ a xs, v = .ref a ∧ SqL K H a xs ∧ DpAll K H xs ds := by
  cases h with
  | lst h a => exact ⟨_, _, rfl, h, a⟩
theorem dpLength {K : PySem.W.Frag} {H : Hp} : ∀ {vs : List V} {ds : List PyData}, DpAll K H vs ds → vs.length = ds.length
  | _, _, .nil => rfl
  | _, _, .cons _ t => congrArg (· + 1) (dpLength t)
theorem dpGet {K : PySem.W.Frag} {H : Hp} : ∀ {vs : List V} {ds : List PyData} {i : Nat} {d : PyData}, DpAll K H vs ds → ds[i]? = some d → ∃ v, vs[i]? = some v ∧ Dp K H v d
  | _, _, _, _, .nil, h => by simp at h
  | _, _, 0, _, .cons h _, e => by
    simp at e
    subst e
    exact ⟨_, rfl, h⟩
  | _, _, i + 1, _, .cons _ t, e => by
    obtain ⟨v, h1, h2⟩ := dpGet (i := i) t (by simpa using e)
    exact ⟨v, by simpa using h1, h2⟩
theorem dpApp {K : PySem.W.Frag} {H : Hp} : ∀ {vs us : List V} {ds es : List PyData}, DpAll K H vs ds → DpAll K H us es → DpAll K H (vs ++ us) (ds ++ es)
  | _, _, _, _, .nil, s => s
  | _, _, _, _, .cons h t, s => .cons h (dpApp t s)
theorem dpTake {K : PySem.W.Frag} {H : Hp} : ∀ {vs : List V} {ds : List PyData} (n : Nat), DpAll K H vs ds → DpAll K H (vs.take n) (ds.take n)
  | _, _, 0, _ => .nil
  | _, _, _ + 1, .nil => .nil
  | _, _, n + 1, .cons h t => .cons h (dpTake n t)
theorem dpDrop {K : PySem.W.Frag} {H : Hp} : ∀ {vs : List V} {ds : List PyData} (n : Nat), DpAll K H vs ds → DpAll K H (vs.drop n) (ds.drop n)
  | _, _, 0, h => h
  | _, _, _ + 1, .nil => .nil
  | _, _, n + 1, .cons _ t => dpDrop n t
theorem dpAll_ints {K : PySem.W.Frag} {H : Hp} : ∀ (ns : List Int), DpAll K H (ns.map V.int) (ns.map PyData.int)
  | [] => .nil
  | n :: r => .cons (.int n) (dpAll_ints r)
theorem dpAll_ints_eq {K : PySem.W.Frag} {H : Hp} : ∀ {vs : List V} {ns : List Int}, DpAll K H vs (ns.map PyData.int) → vs = ns.map V.int
  | _, [], h => by cases h; rfl
  | _, n :: r, h => by
    cases h with
    | cons h1 h2 => rw [dp_int h1, dpAll_ints_eq h2] <;> rfl
/-! ### the slots -/
def Sl (H : Hp) (σ : L2.St) (ps : Kn) : Prop := σ.length = ps.length ∧ ∀ (i : Nat) (P : PV), ps[i]? = some (some P) → ∃ v, σ[i]? = some (some v) ∧ P.p H v
theorem Sl.mono {H H' : Hp} {σ : L2.St} {ps : Kn} (S : Sl H σ ps) (e : Ex H H') : Sl H' σ ps := ⟨S.1, fun i P h => by
  obtain ⟨v, h1, h2⟩ := S.2 i P h
  exact ⟨v, h1, P.mn e h2⟩⟩
theorem Sl.set {H : Hp} {σ : L2.St} {ps : Kn} {P : PV} {v : V} (S : Sl H σ ps) (i : Nat) (h : P.p H v) : Sl H (σ.set i (some v)) (ps.set i (some P)) := by
  refine ⟨by rw [List.length_set, List.length_set, S.1], fun j R hj => ?_⟩
  by_cases e : i = j
  · subst e
    have hl : i < ps.length := by
      have := (List.getElem?_eq_some_iff.mp hj).1
      simpa using this
    rw [List.getElem?_set_self hl] at hj
    cases hj
    exact ⟨v, List.getElem?_set_self (by rw [S.1]; exact hl), h⟩
  · rw [List.getElem?_set_ne e] at hj
    obtain ⟨u, h1, h2⟩ := S.2 j R hj
    exact ⟨u, by rw [List.getElem?_set_ne e]; exact h1, h2⟩
theorem Sl.forget {H : Hp} {σ : L2.St} {ps : Kn} (S : Sl H σ ps) (i : Nat) (x : Option V) : Sl H (σ.set i x) (ps.set i none) := by
  refine ⟨by rw [List.length_set, List.length_set, S.1], fun j R hj => ?_⟩
  by_cases e : i = j
  · subst e
    have hl : i < ps.length := by
      have := (List.getElem?_eq_some_iff.mp hj).1
      simpa using this
    rw [List.getElem?_set_self hl] at hj
    cases hj
  · rw [List.getElem?_set_ne e] at hj
    obtain ⟨u, h1, h2⟩ := S.2 j R hj
    exact ⟨u, by rw [List.getElem?_set_ne e]; exact h1, h2⟩
/-- less is known -/
def Weak : Kn → Kn → Prop
  | [], [] => True
  | p :: ps, q :: qs => (q = none ∨ q = p) ∧ Weak ps qs
  | _, _ => False
theorem Weak.rfl_ : ∀ ps : Kn, Weak ps ps
  | [] => trivial
  | _ :: r => ⟨.inr rfl, Weak.rfl_ r⟩
theorem Weak.len : ∀ {ps qs : Kn}, Weak ps qs → ps.length = qs.length
  | [], [], _ => rfl
  | _ :: _, _ :: _, h => congrArg (· + 1) (Weak.len h.2)
theorem Weak.get : ∀ {ps qs : Kn} {i : Nat} {P : PV}, Weak ps qs → qs[i]? = some (some P) → ps[i]? = some (some P)
  | [], [], _, _, _, e => by simp at e
  | p :: ps, q :: qs, 0, P, h, e => by
    simp at e ⊢
    rcases h.1 with z | z
    · rw [z] at e; cases e
    · rw [← z]; exact e
  | p :: ps, q :: qs, i + 1, P, h, e => by
    simp at e ⊢
    exact Weak.get h.2 e
theorem Sl.weak {H : Hp} {σ : L2.St} {ps qs : Kn} (S : Sl H σ ps) (w : Weak ps qs) : Sl H σ qs := ⟨by rw [S.1, w.len], fun i P h => S.2 i P (w.get h)⟩
/-- known of several values, one after the other -/
inductive AllP (H : Hp) : List V → List PV → Prop
  | nil : AllP H [] []
  | cons {v : V} {vs : List V} {P : PV} {Ps : List PV} : P.p H v → AllP H vs Ps → AllP H (v :: vs) (P :: Ps)
theorem AllP.mono {H H' : Hp} (e : Ex H H') : ∀ {vs : List V} {Ps : List PV}, AllP H vs Ps → AllP H' vs Ps
  | _, _, .nil => .nil
  | _, _, .cons h t => .cons (PV.mn _ e h) (AllP.mono e t)
theorem AllP.length {H : Hp} : ∀ {vs : List V} {Ps : List PV}, AllP H vs Ps → vs.length = Ps.length
  | _, _, .nil => rfl
  | _, _, .cons _ t => congrArg (· + 1) (AllP.length t)
theorem AllP.dv {K : PySem.W.Frag} {H : Hp} : ∀ {vs : List V} {ds : List PyData}, AllP H vs (ds.map (dv K)) → DpAll K H vs ds
  | _, [], h => by cases h; exact .nil
  | _, d :: r, h => by
    cases h with
    | cons h1 h2 => exact .cons h1 (AllP.dv h2)
theorem AllP.of_dv {K : PySem.W.Frag} {H : Hp} : ∀ {vs : List V} {ds : List PyData}, DpAll K H vs ds → AllP H vs (ds.map (EB.dv K))
  | _, _, .nil => .nil
  | _, _, .cons h t => .cons h (AllP.of_dv t)
theorem AllP.get {H : Hp} : ∀ {vs : List V} {Ps : List PV} {i : Nat} {P : PV}, AllP H vs Ps → Ps[i]? = some P → ∃ v, vs[i]? = some v ∧ P.p H v
  | _, _, _, _, .nil, e => by simp at e
  | _, _, 0, _, .cons h _, e => by
    simp at e
    subst e
    exact ⟨_, rfl, h⟩
  | _, _, i + 1, _, .cons _ t, e => by
    obtain ⟨v, h1, h2⟩ := AllP.get (i := i) t (by simpa using e)
    exact ⟨v, by simpa using h1, h2⟩
theorem AllP.app {H : Hp} : ∀ {vs us : List V} {Ps Qs : List PV}, AllP H vs Ps → AllP H us Qs → AllP H (vs ++ us) (Ps ++ Qs)
  | _, _, _, _, .nil, s => s
  | _, _, _, _, .cons h t, s => .cons h (AllP.app t s)
def entry (N : List Str) (Ps : List PV) : Kn := Ps.map some ++ List.replicate (N.length - Ps.length) none
theorem Sl.start {H : Hp} {N : List Str} {vs : List V} {Ps : List PV} (h : AllP H vs Ps) : Sl H (L2.start N vs) (entry N Ps) := by
  refine ⟨by unfold L2.start entry; simp [h.length], fun i P e => ?_⟩
  unfold entry at e
  by_cases hi : i < Ps.length
  · rw [List.getElem?_append_left (by simpa using hi)] at e
    rw [List.getElem?_map] at e
    cases q : Ps[i]? with
    | none => rw [q] at e; simp at e
    | some R =>
      rw [q] at e
      have : R = P := by simpa using e
      subst this
      obtain ⟨v, h1, h2⟩ := h.get q
      refine ⟨v, ?_, h2⟩
      unfold L2.start
      rw [List.getElem?_append_left (by simp [h.length]; exact hi), List.getElem?_map, h1]
      rfl
  · rw [List.getElem?_append_right (by simpa using hi)] at e
    have := List.mem_of_getElem? e
    have := List.eq_of_mem_replicate this
    cases this
/-! ### growing: F, where the facts are told; H, the heap -/
structure Gr (F H F' H' : Hp) : Prop where
  ff : Ex F F'
  hh : Ex H H'
  fh : Ex F' H'
  nw : ∀ a, H a ≠ none → F a = none → F' a = none
theorem Gr.refl {F H : Hp} (fh : Ex F H) : Gr F H F H := ⟨Ex.refl _, Ex.refl _, fh, fun _ _ h => h⟩
theorem Gr.trans {F H F1 H1 F2 H2 : Hp} (a : Gr F H F1 H1) (b : Gr F1 H1 F2 H2) : Gr F H F2 H2 := ⟨a.ff.trans b.ff, a.hh.trans b.hh, b.fh, fun x hx hf => b.nw x (fun z => by
  have := fresh_back a.hh z
  exact hx this) (a.nw x hx hf)⟩
theorem ex_upd {F H : Hp} {p : Addr} {o : HO} (fh : Ex F H) (hp : H p = none) : Ex (upd F p o) (upd H p o) := fun a u e => by
  by_cases z : a = p
  · subst z
    rw [upd_same] at e ⊢
    exact e
  · rw [upd_ne z] at e ⊢
    exact fh a u e
theorem Gr.new {F H : Hp} {p : Addr} {o : HO} (fh : Ex F H) (hp : H p = none) : Gr F H (upd F p o) (upd H p o) := ⟨Ex.new (fresh_back fh hp), Ex.new hp, ex_upd fh hp, fun a ha hf => by
  have : a ≠ p := fun z => by
    subst z
    exact ha hp
  rw [upd_ne this]
  exact hf⟩
/-- the heap alone grows -/
theorem Gr.heap {F H H' : Hp} (fh : Ex F H) (e : Ex H H') : Gr F H F H' := ⟨Ex.refl _, e, fh.trans e, fun _ _ h => h⟩
/-! ### errors and outcomes -/
inductive EC | WrongCount | TooFar | NoPoint | Repeated | OnLine | NoSize | WrongRow | WrongLine | OnPlane | Within | NotTouched | NotBowl
  deriving DecidableEq
def EC.fld : EC → Str
  | .WrongCount => "count"
  | .TooFar => "value"
  | .NoPoint => "number"
  | .Repeated => "number"
  | .OnLine => "numbers"
  | .NoSize => "size"
  | .WrongRow => "form"
  | .WrongLine => "line"
  | .OnPlane => "numbers"
  | .Within => "triangle"
  | .NotTouched => "triangle"
  | .NotBowl => "triangle"
structure Er where
  c : EC
  val : PyData
inductive Out
  | ok (P : PV)
  | er (e : Er)
/-- what is wanted of a call that ends in o; M: where the classes stand -/
def Then (K : PySem.W.Frag) (M : EC → Addr) (F H : Hp) (Q : VK) (E : XK) : Out → Prop
  | .ok P => ∀ v F' H', Gr F H F' H' → P.p F' v → Q v H'
  | .er e => ∀ d u F' H', Gr F H F' H' → H d = none → H' d = some (.xd [(e.c.fld, u)]) → Dp K F' u e.val → E (.ref (M e.c)) (some d) H'
theorem Then.step {K : PySem.W.Frag} {M : EC → Addr} {F H F1 H1 : Hp} {Q : VK} {E : XK} {o : Out} (e : Gr F H F1 H1) (h : Then K M F H Q E o) : Then K M F1 H1 Q E o := by
  cases o with
  | ok P => exact fun v F' H' e2 p => h v F' H' (e.trans e2) p
  | er x => exact fun d u F' H' e2 n a b => h d u F' H' (e.trans e2) (fresh_back e.hh n) a b
/-- a def's promise: the arguments' kinds, the domain, the outcome -/
def Prm (K : PySem.W.Frag) (M : EC → Addr) {α : Type} (args : α → List PV) (dom : α → Prop) (out : α → Out) : Sp :=
  fun vs H Q E => ∃ a F, Ex F H ∧ AllP F vs (args a) ∧ dom a ∧ Then K M F H Q E (out a)
section
variable {K : PySem.W.Frag} {M : EC → Addr} {W : WX} {ps : Kn}
def JE (K : PySem.W.Frag) (M : EC → Addr) (W : WX) (te : TE) (ps : Kn) (o : Out) : Prop := ∀ σ F H Q, Ex F H → Sl F σ ps → Then K M F H Q (WE W σ) o → te σ H Q
abbrev JV (K : PySem.W.Frag) (M : EC → Addr) (W : WX) (te : TE) (ps : Kn) (P : PV) : Prop := JE K M W te ps (.ok P)
abbrev JD (K : PySem.W.Frag) (M : EC → Addr) (W : WX) (te : TE) (ps : Kn) (d : PyData) : Prop := JE K M W te ps (.ok (dv K d))
def JT (K : PySem.W.Frag) (M : EC → Addr) (W : WX) (tt : TT) (ps : Kn) (b : Bool) : Prop := ∀ σ F H (Q : Bool → Hp → Prop), Ex F H → Sl F σ ps → (∀ F' H', Gr F H F' H' → Q b H') → tt σ H Q
def JA (K : PySem.W.Frag) (M : EC → Addr) (W : WX) (ta : TA) (ps : Kn) (Ps : List PV) : Prop := ∀ σ F H (Q : List V → Hp → Prop), Ex F H → Sl F σ ps → (∀ vs F' H', Gr F H F' H' → AllP F' vs Ps → Q vs H') → ta σ H Q
variable {ta tb tc te : TE} {t u : TT}
theorem JE.go {P : PV} (h : JV K M W te ps P) {σ : L2.St} {F H : Hp} {Q : VK} (fh : Ex F H) (S : Sl F σ ps) (k : ∀ v F' H', Gr F H F' H' → P.p F' v → Q v H') : te σ H Q := h σ F H Q fh S k
theorem je_var {i : Nat} {P : PV} (h : ps[i]? = some (some P)) : JV K M W (tVar i) ps P := fun σ F H Q fh S k => by
  obtain ⟨v, h1, h2⟩ := S.2 i P h
  exact ⟨v, h1, k v F H (Gr.refl fh) h2⟩
theorem je_int {i : Int} : JD K M W (tC (.int i)) ps (.int i) := fun σ F H Q fh S k => k _ F H (Gr.refl fh) (.int i)
theorem je_str {x : Str} : JD K M W (tC (.str x)) ps (.str x) := fun σ F H Q fh S k => k _ F H (Gr.refl fh) (.str x)
theorem je_bl {b : Bool} : JD K M W (tC (.bl b)) ps (.bool b) := fun σ F H Q fh S k => k _ F H (Gr.refl fh) (.bl b)
theorem je_non : JD K M W (tC .non) ps .none := fun σ F H Q fh S k => k _ F H (Gr.refl fh) .non
theorem je_x {v : V} : JV K M W (tC v) ps (xv v) := fun σ F H Q fh S k => k _ F H (Gr.refl fh) rfl
theorem je_weak {P R : PV} (h : JV K M W te ps P) (i : ∀ H v, P.p H v → R.p H v) : JV K M W te ps R := fun σ F H Q fh S k => h.go fh S fun v F' H' e p => k v F' H' e (i F' v p)
/-- two operands that are known, an operation on values -/
theorem je_op {r : R2} {P R S' : PV} (ha : JV K M W ta ps P) (hb : JV K M W tb ps R) (hr : ∀ x y F H, Ex F H → P.p F x → R.p F y → ∀ Q : VK, (∀ v F' H', Gr F H F' H' → S'.p F' v → Q v H') → r x y H Q) : JV K M W (tOp r ta tb) ps S' := fun σ F H Q fh S k =>
  ha.go fh S fun x F1 H1 e1 p => hb.go e1.fh (S.mono e1.ff) fun y F2 H2 e2 q => hr x y F2 H2 e2.fh (P.mn e2.ff p) q Q fun v F3 H3 e3 s => k v F3 H3 ((e1.trans e2).trans e3) s
theorem je_un {r : V → Hp → VK → Prop} {P R : PV} (ha : JV K M W ta ps P) (hr : ∀ x F H, Ex F H → P.p F x → ∀ Q : VK, (∀ v F' H', Gr F H F' H' → R.p F' v → Q v H') → r x H Q) : JV K M W (tUn r ta) ps R := fun σ F H Q fh S k =>
  ha.go fh S fun x F1 H1 e1 p => hr x F1 H1 e1.fh p Q fun v F2 H2 e2 s => k v F2 H2 (e1.trans e2) s
/-- two ints -/
theorem je_ii0 {g : Int → Int → V} {i j : Int} {d : PyData} (ha : JD K M W ta ps (.int i)) (hb : JD K M W tb ps (.int j)) (hd : ∀ H, Dp K H (g i j) d) : JD K M W (tOp (rI0 g) ta tb) ps d :=
  je_op ha hb fun x y F H fh p q Q k => ⟨i, j, dp_int p, dp_int q, k _ F H (Gr.refl fh) (hd F)⟩
theorem je_iiC {C : Int → Int → Prop} {g : Int → Int → V} {i j : Int} {d : PyData} (ha : JD K M W ta ps (.int i)) (hb : JD K M W tb ps (.int j)) (hc : C i j) (hd : ∀ H, Dp K H (g i j) d) : JD K M W (tOp (rI C g) ta tb) ps d :=
  je_op ha hb fun x y F H fh p q Q k => ⟨i, j, dp_int p, dp_int q, hc, k _ F H (Gr.refl fh) (hd F)⟩
theorem je_add {i j : Int} (ha : JD K M W ta ps (.int i)) (hb : JD K M W tb ps (.int j)) : JD K M W (tOp (rI0 fun i j => .int (i + j)) ta tb) ps (.int (i + j)) := je_ii0 ha hb fun _ => .int _
theorem je_sub {i j : Int} (ha : JD K M W ta ps (.int i)) (hb : JD K M W tb ps (.int j)) : JD K M W (tOp (rI0 fun i j => .int (i - j)) ta tb) ps (.int (i - j)) := je_ii0 ha hb fun _ => .int _
theorem je_mul {i j : Int} (ha : JD K M W ta ps (.int i)) (hb : JD K M W tb ps (.int j)) (hc : CMul i j) : JD K M W (tOp (rI CMul fun i j => .int (i * j)) ta tb) ps (.int (i * j)) := je_iiC ha hb hc fun _ => .int _
theorem je_mod {i j : Int} (ha : JD K M W ta ps (.int i)) (hb : JD K M W tb ps (.int j)) (hc : 0 < j) : JD K M W (tOp (rI (fun _ j => 0 < j) fun i j => .int (i % j)) ta tb) ps (.int (i % j)) := je_iiC (C := fun _ j => 0 < j) ha hb hc fun _ => .int _
theorem je_div {i j : Int} (ha : JD K M W ta ps (.int i)) (hb : JD K M W tb ps (.int j)) (hc : CDiv i j) : JD K M W (tOp (rI CDiv fun i j => .int (i / j)) ta tb) ps (.int (i / j)) := je_iiC ha hb hc fun _ => .int _
theorem je_pow {i j : Int} (ha : JD K M W ta ps (.int i)) (hb : JD K M W tb ps (.int j)) (hc : CPow i j) : JD K M W (tOp (rI CPow fun i j => .int (i ^ j.toNat)) ta tb) ps (.int (i ^ j.toNat)) := je_iiC ha hb hc fun _ => .int _
theorem je_lt {i j : Int} (ha : JD K M W ta ps (.int i)) (hb : JD K M W tb ps (.int j)) : JD K M W (tOp (rI0 fun i j => .bl (decide (i < j))) ta tb) ps (.bool (decide (i < j))) := je_ii0 ha hb fun _ => .bl _
theorem je_le {i j : Int} (ha : JD K M W ta ps (.int i)) (hb : JD K M W tb ps (.int j)) : JD K M W (tOp (rI0 fun i j => .bl (decide (i ≤ j))) ta tb) ps (.bool (decide (i ≤ j))) := je_ii0 ha hb fun _ => .bl _
theorem je_gt {i j : Int} (ha : JD K M W ta ps (.int i)) (hb : JD K M W tb ps (.int j)) : JD K M W (tOp (rI0 fun i j => .bl (decide (j < i))) ta tb) ps (.bool (decide (j < i))) := je_ii0 ha hb fun _ => .bl _
theorem je_ge {i j : Int} (ha : JD K M W ta ps (.int i)) (hb : JD K M W tb ps (.int j)) : JD K M W (tOp (rI0 fun i j => .bl (decide (j ≤ i))) ta tb) ps (.bool (decide (j ≤ i))) := je_ii0 ha hb fun _ => .bl _
theorem je_eqI {i j : Int} (ha : JD K M W ta ps (.int i)) (hb : JD K M W tb ps (.int j)) : JD K M W (tOp rEq ta tb) ps (.bool (decide (i = j))) := je_op ha hb fun x y F H fh p q Q k => by
  rw [dp_int p, dp_int q]
  refine ⟨rfl, ?_⟩
  have e : decide (V.int i = V.int j) = decide (i = j) := by
    by_cases h : i = j
    · subst h; simp
    · simp [h]
  rw [e]
  exact k _ F H (Gr.refl fh) (.bl _)
theorem je_neI {i j : Int} (ha : JD K M W ta ps (.int i)) (hb : JD K M W tb ps (.int j)) : JD K M W (tOp rNe ta tb) ps (.bool (!decide (i = j))) := je_op ha hb fun x y F H fh p q Q k => by
  rw [dp_int p, dp_int q]
  refine ⟨rfl, ?_⟩
  have e : decide (V.int i = V.int j) = decide (i = j) := by
    by_cases h : i = j
    · subst h; simp
    · simp [h]
  rw [e]
  exact k _ F H (Gr.refl fh) (.bl _)
theorem je_eqS {x y : Str} (ha : JD K M W ta ps (.str x)) (hb : JD K M W tb ps (.str y)) : JD K M W (tOp rEq ta tb) ps (.bool (decide (x = y))) := je_op ha hb fun a b F H fh p q Q k => by
  rw [dp_str p, dp_str q]
  refine ⟨rfl, ?_⟩
  have e : decide (V.str x = V.str y) = decide (x = y) := by
    by_cases h : x = y
    · subst h; simp
    · simp [h]
  rw [e]
  exact k _ F H (Gr.refl fh) (.bl _)
/-- data at any depth -/
theorem je_eqD {d e : PyData} (ha : JD K M W ta ps d) (hb : JD K M W tb ps e) (sd : SeqAt.shaped d = true) (se : SeqAt.shaped e = true) : JD K M W (tOp (rEqD K) ta tb) ps (.bool (PyData.eqv d e)) :=
  je_op ha hb fun x y F H fh p q Q k => ⟨d, e, dp_mono fh p, dp_mono fh q, sd, se, k _ F H (Gr.refl fh) (.bl _)⟩
theorem je_neD {d e : PyData} (ha : JD K M W ta ps d) (hb : JD K M W tb ps e) (sd : SeqAt.shaped d = true) (se : SeqAt.shaped e = true) : JD K M W (tOp (rNeD K) ta tb) ps (.bool (!PyData.eqv d e)) :=
  je_op ha hb fun x y F H fh p q Q k => ⟨d, e, dp_mono fh p, dp_mono fh q, sd, se, k _ F H (Gr.refl fh) (.bl _)⟩
theorem je_neg {i : Int} (ha : JD K M W ta ps (.int i)) : JD K M W (tUn (rU fun i => .int (-i)) ta) ps (.int (-i)) := je_un ha fun x F H fh p Q k => ⟨i, dp_int p, k _ F H (Gr.refl fh) (.int _)⟩
/-- items -/
theorem atI_all {H : Hp} {vs : List V} {ds : List PyData} {i : Int} {d : PyData} (h : DpAll K H vs ds) (ha : atI ds i = some d) : ∃ v, atI vs i = some v ∧ Dp K H v d := by
  unfold atI at ha ⊢
  rw [dpLength h]
  cases q : ixN ds.length i with
  | none => rw [q] at ha; cases ha
  | some j =>
    rw [q] at ha
    exact dpGet h ha
theorem je_ixT {ds : List PyData} {i : Int} {d : PyData} (ha : JD K M W ta ps (.tuple ds)) (hb : JD K M W tb ps (.int i)) (hi : atI ds i = some d) : JD K M W (tOp (rIxT K) ta tb) ps d :=
  je_op ha hb fun x y F H fh p q Q k => by
    obtain ⟨a, xs, rfl, hs, hd⟩ := dp_tup p
    obtain ⟨v, hv, dd⟩ := atI_all hd hi
    exact ⟨a, xs, i, v, rfl, dp_int q, ex_t fh hs, hv, k v F H (Gr.refl fh) dd⟩
theorem je_ixL {ds : List PyData} {i : Int} {d : PyData} (ha : JD K M W ta ps (.list ds)) (hb : JD K M W tb ps (.int i)) (hi : atI ds i = some d) : JD K M W (tOp (rIxL K) ta tb) ps d :=
  je_op ha hb fun x y F H fh p q Q k => by
    obtain ⟨a, xs, rfl, hs, hd⟩ := dp_lst p
    obtain ⟨v, hv, dd⟩ := atI_all hd hi
    exact ⟨a, xs, i, v, rfl, dp_int q, ex_l fh hs, hv, k v F H (Gr.refl fh) dd⟩
theorem je_ixQT {ds : List PyData} {i : Int} {d : PyData} (ha : JD K M W ta ps (.tuple ds)) (hb : JD K M W tb ps (.int i)) (hi : atI ds i = some d) : JD K M W (tOp (rIx K) ta tb) ps d :=
  je_op ha hb fun x y F H fh p q Q k => by
    obtain ⟨a, xs, rfl, hs, hd⟩ := dp_tup p
    obtain ⟨v, hv, dd⟩ := atI_all hd hi
    exact .inr (.inl ⟨a, xs, i, v, rfl, dp_int q, ex_t fh hs, hv, k v F H (Gr.refl fh) dd⟩)
theorem je_ixQL {ds : List PyData} {i : Int} {d : PyData} (ha : JD K M W ta ps (.list ds)) (hb : JD K M W tb ps (.int i)) (hi : atI ds i = some d) : JD K M W (tOp (rIx K) ta tb) ps d :=
  je_op ha hb fun x y F H fh p q Q k => by
    obtain ⟨a, xs, rfl, hs, hd⟩ := dp_lst p
    obtain ⟨v, hv, dd⟩ := atI_all hd hi
    exact .inl ⟨a, xs, i, v, rfl, dp_int q, ex_l fh hs, hv, k v F H (Gr.refl fh) dd⟩
/-- arguments -/
theorem ja_nil : JA K M W tNil ps [] := fun σ F H Q fh S k => k [] F H (Gr.refl fh) .nil
theorem ja_cons {P : PV} {Ps : List PV} {tr : TA} (h : JV K M W te ps P) (hr : JA K M W tr ps Ps) : JA K M W (tCons te tr) ps (P :: Ps) := fun σ F H Q fh S k =>
  h.go fh S fun v F1 H1 e1 p => hr σ F1 H1 _ e1.fh (S.mono e1.ff) fun vs F2 H2 e2 a => k (v :: vs) F2 H2 (e1.trans e2) (.cons (P.mn e2.ff p) a)
theorem ja_starT {ds : List PyData} {Ps : List PV} {tr : TA} (h : JD K M W te ps (.tuple ds)) (hr : JA K M W tr ps Ps) : JA K M W (StX.tStar K te tr) ps (ds.map (dv K) ++ Ps) := fun σ F H Q fh S k =>
  h.go fh S fun v F1 H1 e1 p => by
    obtain ⟨a, xs, rfl, hs, hd⟩ := dp_tup p
    exact ⟨a, xs, rfl, .inl (ex_t e1.fh hs), hr σ F1 H1 _ e1.fh (S.mono e1.ff) fun vs F2 H2 e2 b => k (xs ++ vs) F2 H2 (e1.trans e2) ((AllP.of_dv (dpAll_mono e2.ff hd)).app b)⟩
theorem ja_starL {ds : List PyData} {Ps : List PV} {tr : TA} (h : JD K M W te ps (.list ds)) (hr : JA K M W tr ps Ps) : JA K M W (StX.tStar K te tr) ps (ds.map (dv K) ++ Ps) := fun σ F H Q fh S k =>
  h.go fh S fun v F1 H1 e1 p => by
    obtain ⟨a, xs, rfl, hs, hd⟩ := dp_lst p
    exact ⟨a, xs, rfl, .inr (ex_l e1.fh hs), hr σ F1 H1 _ e1.fh (S.mono e1.ff) fun vs F2 H2 e2 b => k (xs ++ vs) F2 H2 (e1.trans e2) ((AllP.of_dv (dpAll_mono e2.ff hd)).app b)⟩
theorem ja_is {Ps Qs : List PV} {tr : TA} (h : JA K M W tr ps Ps) (e : Ps = Qs) : JA K M W tr ps Qs := e ▸ h
theorem je_tup {ds : List PyData} {tr : TA} (h : JA K M W tr ps (ds.map (dv K))) (hl : ds.length ≤ 100000 := by first | decide | omega | (simp; done)) : JD K M W (tTup tr) ps (.tuple ds) := fun σ F H Q fh S k =>
  h σ F H _ fh S fun vs F1 H1 e1 a => ⟨sz_of (by rw [dpLength a.dv]; exact hl), fun p hp => k _ _ _ (e1.trans (Gr.new e1.fh hp)) (.tup (st_of upd_same) (dpAll_mono (Gr.new (o := .tup vs) e1.fh hp).ff a.dv))⟩
theorem je_lst {ds : List PyData} {tr : TA} (h : JA K M W tr ps (ds.map (dv K))) (hl : ds.length ≤ 100000 := by first | decide | omega | (simp; done)) : JD K M W (tLst tr) ps (.list ds) := fun σ F H Q fh S k =>
  h σ F H _ fh S fun vs F1 H1 e1 a => ⟨sz_of (by rw [dpLength a.dv]; exact hl), fun p hp => k _ _ _ (e1.trans (Gr.new e1.fh hp)) (.lst (sq_of upd_same) (dpAll_mono (Gr.new (o := .lst vs) e1.fh hp).ff a.dv))⟩
/-- calls -/
theorem je_call {α : Type} {args : α → List PV} {dom : α → Prop} {out : α → Out} {tr : TA} (a : α) (h : JA K M W tr ps (args a)) (hd : dom a) : JE K M W (tCallS (Prm K M args dom out) (WE W) tr) ps (out a) := fun σ F H Q fh S k =>
  h σ F H _ fh S fun vs F1 H1 e1 b => ⟨a, F1, e1.fh, b, hd, Then.step e1 k⟩
theorem je_cb {r : List V → Hp → VK → Prop} {Ps : List PV} {P : PV} {tr : TA} (h : JA K M W tr ps Ps) (hr : ∀ vs F H, Ex F H → AllP F vs Ps → ∀ Q : VK, (∀ v F' H', Gr F H F' H' → P.p F' v → Q v H') → r vs H Q) : JV K M W (tCB r tr) ps P := fun σ F H Q fh S k =>
  h σ F H _ fh S fun vs F1 H1 e1 b => hr vs F1 H1 e1.fh b Q fun v F2 H2 e2 p => k v F2 H2 (e1.trans e2) p
theorem allP1 {H : Hp} {vs : List V} {P : PV} (h : AllP H vs [P]) : ∃ v, vs = [v] ∧ P.p H v := by
  cases h with
  | cons h t => cases t; exact ⟨_, rfl, h⟩
theorem allP2 {H : Hp} {vs : List V} {P R : PV} (h : AllP H vs [P, R]) : ∃ v u, vs = [v, u] ∧ P.p H v ∧ R.p H u := by
  cases h with
  | cons h t =>
    obtain ⟨u, rfl, h2⟩ := allP1 t
    exact ⟨_, _, rfl, h, h2⟩
def rAbs : List V → Hp → VK → Prop := fun xs H Q => ∃ i, xs = [.int i] ∧ Q (.int (if i < 0 then -i else i)) H
theorem je_abs {i : Int} (h : JD K M W te ps (.int i)) : JD K M W (tCB rAbs (tCons te tNil)) ps (.int (if i < 0 then -i else i)) := je_cb (ja_cons h ja_nil) fun vs F H fh b Q k => by
  obtain ⟨v, rfl, p⟩ := allP1 b
  rw [dp_int p]
  exact ⟨i, rfl, k _ F H (Gr.refl fh) (.int _)⟩
def rInt1 : List V → Hp → VK → Prop := fun xs H Q => (∃ i, xs = [.int i] ∧ Q (.int i) H) ∨ ∃ k, xs = [.bl k] ∧ Q (.int (if k then 1 else 0)) H
theorem je_intI {i : Int} (h : JD K M W te ps (.int i)) : JD K M W (tCB rInt1 (tCons te tNil)) ps (.int i) := je_cb (ja_cons h ja_nil) fun vs F H fh b Q k => by
  obtain ⟨v, rfl, p⟩ := allP1 b
  rw [dp_int p]
  exact .inl ⟨i, rfl, k _ F H (Gr.refl fh) (.int _)⟩
theorem je_intB {c : Bool} (h : JD K M W te ps (.bool c)) : JD K M W (tCB rInt1 (tCons te tNil)) ps (.int (if c then 1 else 0)) := je_cb (ja_cons h ja_nil) fun vs F H fh b Q k => by
  obtain ⟨v, rfl, p⟩ := allP1 b
  rw [dp_bl p]
  exact .inr ⟨c, rfl, k _ F H (Gr.refl fh) (.int _)⟩
theorem je_lenT {ds : List PyData} (h : JD K M W te ps (.tuple ds)) : JD K M W (tCB (rLenS K) (tCons te tNil)) ps (.int ds.length) := je_cb (ja_cons h ja_nil) fun vs F H fh b Q k => by
  obtain ⟨v, rfl, p⟩ := allP1 b
  obtain ⟨a, xs, rfl, hs, hd⟩ := dp_tup p
  refine ⟨a, xs, rfl, .inr (ex_t fh hs), k _ F H (Gr.refl fh) ?_⟩
  rw [dpLength hd]
  exact .int _
theorem je_lenL {ds : List PyData} (h : JD K M W te ps (.list ds)) : JD K M W (tCB (rLenS K) (tCons te tNil)) ps (.int ds.length) := je_cb (ja_cons h ja_nil) fun vs F H fh b Q k => by
  obtain ⟨v, rfl, p⟩ := allP1 b
  obtain ⟨a, xs, rfl, hs, hd⟩ := dp_lst p
  refine ⟨a, xs, rfl, .inl (ex_l fh hs), k _ F H (Gr.refl fh) ?_⟩
  rw [dpLength hd]
  exact .int _
theorem je_listL {ds : List PyData} (h : JD K M W te ps (.list ds)) : JD K M W (tCB (rListS K) (tCons te tNil)) ps (.list ds) := je_cb (ja_cons h ja_nil) fun vs F H fh b Q k => by
  obtain ⟨v, rfl, p⟩ := allP1 b
  obtain ⟨a, xs, rfl, hs, hd⟩ := dp_lst p
  exact ⟨a, xs, rfl, .inl (ex_l fh hs), fun l hl => k _ _ _ (Gr.new fh hl) (.lst (sq_of upd_same) (dpAll_mono (Gr.new (o := .lst xs) fh hl).ff hd))⟩
theorem je_listT {ds : List PyData} (h : JD K M W te ps (.tuple ds)) : JD K M W (tCB (rListS K) (tCons te tNil)) ps (.list ds) := je_cb (ja_cons h ja_nil) fun vs F H fh b Q k => by
  obtain ⟨v, rfl, p⟩ := allP1 b
  obtain ⟨a, xs, rfl, hs, hd⟩ := dp_tup p
  exact ⟨a, xs, rfl, .inr (ex_t fh hs), fun l hl => k _ _ _ (Gr.new fh hl) (.lst (sq_of upd_same) (dpAll_mono (Gr.new (o := .lst xs) fh hl).ff hd))⟩
def rTupS (K : PySem.W.Frag) : List V → Hp → VK → Prop := fun xs H Q => ∃ p ys, xs = [.ref p] ∧ ((SqL K H p ys ∧ ∀ l, H l = none → Q (.ref l) (upd H l (.tup ys))) ∨ (SqT K H p ys ∧ Q (.ref p) H))
theorem je_tupL {ds : List PyData} (h : JD K M W te ps (.list ds)) : JD K M W (tCB (rTupS K) (tCons te tNil)) ps (.tuple ds) := je_cb (ja_cons h ja_nil) fun vs F H fh b Q k => by
  obtain ⟨v, rfl, p⟩ := allP1 b
  obtain ⟨a, xs, rfl, hs, hd⟩ := dp_lst p
  exact ⟨a, xs, rfl, .inl ⟨ex_l fh hs, fun l hl => k _ _ _ (Gr.new fh hl) (.tup (st_of upd_same) (dpAll_mono (Gr.new (o := .tup xs) fh hl).ff hd))⟩⟩
theorem je_tupT {ds : List PyData} (h : JD K M W te ps (.tuple ds)) : JD K M W (tCB (rTupS K) (tCons te tNil)) ps (.tuple ds) := je_cb (ja_cons h ja_nil) fun vs F H fh b Q k => by
  obtain ⟨v, rfl, p⟩ := allP1 b
  obtain ⟨a, xs, rfl, hs, hd⟩ := dp_tup p
  exact ⟨a, xs, rfl, .inr ⟨ex_t fh hs, k _ F H (Gr.refl fh) p⟩⟩
/-- tests -/
theorem jt_test {b : Bool} (h : JD K M W te ps (.bool b)) : JT K M W (tTest te) ps b := fun σ F H Q fh S k => h.go fh S fun v F1 H1 e p => ⟨b, dp_bl p, k F1 H1 e⟩
theorem jt_B {b : Bool} (h : JD K M W te ps (.bool b)) : JT K M W (tB te) ps b := fun σ F H Q fh S k => h.go fh S fun v F1 H1 e p => ⟨b, dp_bl p, k F1 H1 e⟩
theorem jt_and {a b : Bool} (h1 : JT K M W t ps a) (h2 : a = true → JT K M W u ps b) : JT K M W (tAnd t u) ps (a && b) := fun σ F H Q fh S k => h1 σ F H _ fh S fun F1 H1 e1 => by
  cases a with
  | true => exact h2 rfl σ F1 H1 Q e1.fh (S.mono e1.ff) fun F2 H2 e2 => k F2 H2 (e1.trans e2)
  | false => exact k F1 H1 e1
theorem jt_or {a b : Bool} (h1 : JT K M W t ps a) (h2 : a = false → JT K M W u ps b) : JT K M W (tOr t u) ps (a || b) := fun σ F H Q fh S k => h1 σ F H _ fh S fun F1 H1 e1 => by
  cases a with
  | false => exact h2 rfl σ F1 H1 Q e1.fh (S.mono e1.ff) fun F2 H2 e2 => k F2 H2 (e1.trans e2)
  | true => exact k F1 H1 e1
theorem jt_not {a : Bool} (h1 : JT K M W t ps a) : JT K M W (tNot t) ps (!a) := fun σ F H Q fh S k => h1 σ F H _ fh S fun F1 H1 e1 => k F1 H1 e1
theorem jt_yes : JT K M W tYes ps true := fun σ F H Q fh S k => k F H (Gr.refl fh)
theorem jt_is {a b : Bool} (h : JT K M W t ps a) (e : a = b) : JT K M W t ps b := by rw [← e]; exact h
theorem je_is {d e : PyData} (h : JD K M W te ps d) (q : d = e) : JD K M W te ps e := by rw [← q]; exact h
theorem je_andV {a b : Bool} (h1 : JD K M W ta ps (.bool a)) (h2 : a = true → JD K M W tb ps (.bool b)) : JD K M W (tAndV ta tb) ps (.bool (a && b)) := fun σ F H Q fh S k => h1.go fh S fun v F1 H1 e1 p => by
  refine ⟨a, dp_bl p, ?_⟩
  cases a with
  | true => exact (h2 rfl).go e1.fh (S.mono e1.ff) fun v F2 H2 e2 q => k v F2 H2 (e1.trans e2) q
  | false => exact k _ F1 H1 e1 (.bl false)
theorem je_orV {a b : Bool} (h1 : JD K M W ta ps (.bool a)) (h2 : a = false → JD K M W tb ps (.bool b)) : JD K M W (tOrV ta tb) ps (.bool (a || b)) := fun σ F H Q fh S k => h1.go fh S fun v F1 H1 e1 p => by
  refine ⟨a, dp_bl p, ?_⟩
  cases a with
  | false => exact (h2 rfl).go e1.fh (S.mono e1.ff) fun v F2 H2 e2 q => k v F2 H2 (e1.trans e2) q
  | true => exact k _ F1 H1 e1 (.bl true)
theorem je_notV {a : Bool} (h1 : JD K M W ta ps (.bool a)) : JD K M W (tNotV ta) ps (.bool (!a)) := fun σ F H Q fh S k => h1.go fh S fun v F1 H1 e1 p => ⟨a, dp_bl p, k _ F1 H1 e1 (.bl _)⟩
theorem je_if {b : Bool} {P : PV} (h : JT K M W t ps b) (h1 : b = true → JV K M W ta ps P) (h2 : b = false → JV K M W tb ps P) : JV K M W (tIf t ta tb) ps P := fun σ F H Q fh S k => h σ F H _ fh S fun F1 H1 e1 => by
  cases b with
  | true => exact (h1 rfl).go e1.fh (S.mono e1.ff) fun v F2 H2 e2 q => k v F2 H2 (e1.trans e2) q
  | false => exact (h2 rfl).go e1.fh (S.mono e1.ff) fun v F2 H2 e2 q => k v F2 H2 (e1.trans e2) q
/-- a < b <= c -/
theorem je_chain {r r' : R2} {P R T : PV} {k1 k2 : Bool} (ha : JV K M W ta ps P) (hb : JV K M W tb ps R) (hr : ∀ x y F H, Ex F H → P.p F x → R.p F y → ∀ Q : VK, Q (.bl k1) H → r x y H Q)
    (hc : k1 = true → JV K M W tc ps T) (hr' : ∀ x y F H, Ex F H → R.p F x → T.p F y → ∀ Q : VK, Q (.bl k2) H → r' x y H Q) : JD K M W (tChain r r' ta tb tc) ps (.bool (k1 && k2)) := fun σ F H Q fh S k =>
  ha.go fh S fun x F1 H1 e1 p => hb.go e1.fh (S.mono e1.ff) fun y F2 H2 e2 q => hr x y F2 H2 e2.fh (P.mn e2.ff p) q _ ⟨k1, rfl, by
    cases k1 with
    | false => exact k _ F2 H2 (e1.trans e2) (.bl _)
    | true => exact (hc rfl).go e2.fh ((S.mono e1.ff).mono e2.ff) fun z F3 H3 e3 s => hr' y z F3 H3 e3.fh (R.mn e3.ff q) s _ (k _ F3 H3 ((e1.trans e2).trans e3) (.bl _))⟩
theorem je_chainI {f f' : Int → Int → Bool} {i j l : Int} (ha : JD K M W ta ps (.int i)) (hb : JD K M W tb ps (.int j)) (hc : JD K M W tc ps (.int l)) :
    JD K M W (tChain (rI0 fun i j => .bl (f i j)) (rI0 fun i j => .bl (f' i j)) ta tb tc) ps (.bool (f i j && f' j l)) :=
  je_chain ha hb (fun x y F H fh p q Q k => ⟨i, j, dp_int p, dp_int q, k⟩) (fun _ => hc) (fun x y F H fh p q Q k => ⟨j, l, dp_int p, dp_int q, k⟩)
end
end EB

/-! EB4: statements (JS), loops over data, comprehensions, raise, methods, making. -/
namespace EB
open PySem PySem.Spec PyProof.Rows L2 Evl
inductive Res
  | nx (ps : Kn)
  | rt (P : PV)
  | bk (ps : Kn)
  | ct (ps : Kn)
  | er (e : Er)
def Wsh (K : PySem.W.Frag) (M : EC → Addr) (W : WX) (n : Nat) (D : Ends) (F H : Hp) : Res → Prop
  | .nx ps => ∀ σ' F' H', Gr F H F' H' → Sl F' σ' ps → D.nx σ' H'
  | .rt P => ∀ v F' H', Gr F H F' H' → P.p F' v → D.rt v H'
  | .bk ps => ∀ σ' F' H', Gr F H F' H' → Sl F' σ' ps → D.bk σ' H'
  | .ct ps => ∀ σ' F' H', Gr F H F' H' → Sl F' σ' ps → D.ct σ' H'
  | .er e => ∀ d u σ' F' H', Gr F H F' H' → H d = none → H' d = some (.xd [(e.c.fld, u)]) → Dp K F' u e.val → σ'.length = n → W (.ref (M e.c)) (some d) σ' H'
theorem Wsh.step {K : PySem.W.Frag} {M : EC → Addr} {W : WX} {n : Nat} {D : Ends} {F H F1 H1 : Hp} {r : Res} (e : Gr F H F1 H1) (h : Wsh K M W n D F H r) : Wsh K M W n D F1 H1 r := by
  cases r with
  | nx ps => exact fun σ' F' H' e2 s => h σ' F' H' (e.trans e2) s
  | rt P => exact fun v F' H' e2 s => h v F' H' (e.trans e2) s
  | bk ps => exact fun σ' F' H' e2 s => h σ' F' H' (e.trans e2) s
  | ct ps => exact fun σ' F' H' e2 s => h σ' F' H' (e.trans e2) s
  | er x => exact fun d u σ' F' H' e2 n a b l => h d u σ' F' H' (e.trans e2) (fresh_back e.hh n) a b l
/-- the end of a call's outcome, as a statement's -/
def Out.res (ps : Kn) : Out → Res
  | .ok _ => .nx ps
  | .er e => .er e
section
variable {K : PySem.W.Frag} {M : EC → Addr} {W : WX} {ps qs : Kn} {te ta tb : TE} {t : TT} {ts tu tw : TS} {r : Res}
def JS (K : PySem.W.Frag) (M : EC → Addr) (W : WX) (ts : TS) (ps : Kn) (r : Res) : Prop := ∀ D σ F H, Ex F H → Sl F σ ps → Wsh K M W ps.length D F H r → ts D σ H
/-- less is known of the slots behind it -/
theorem js_weak (h : JS K M W ts ps (.nx qs)) {rs : Kn} (w : Weak qs rs) : JS K M W ts ps (.nx rs) := fun D σ F H fh S k => h D σ F H fh S fun σ' F' H' e s => k σ' F' H' e (s.weak w)
theorem js_pre (h : JS K M W ts qs r) (w : Weak ps qs) : JS K M W ts ps r := fun D σ F H fh S k => h D σ F H fh (S.weak w) (by rw [← w.len]; exact k)
theorem js_next : JS K M W tNext ps (.nx ps) := fun D σ F H fh S k => k σ F H (Gr.refl fh) S
theorem js_cont : JS K M W tCont ps (.ct ps) := fun D σ F H fh S k => k σ F H (Gr.refl fh) S
theorem js_seq (h1 : JS K M W ts ps (.nx qs)) (h2 : JS K M W tu qs r) (hq : qs.length = ps.length := by first | rfl | (simp; done)) : JS K M W (tSeq ts tu) ps r := fun D σ F H fh S k => h1 { D with nx := tu D } σ F H fh S fun σ' F' H' e s => h2 D σ' F' H' e.fh s (by rw [hq]; exact Wsh.step e k)
/-- nothing behind it is reached -/
theorem js_stop {r : Res} (h1 : JS K M W ts ps r) (hr : ∀ qs, r ≠ .nx qs) : JS K M W (tSeq ts tu) ps r := fun D σ F H fh S k => h1 { D with nx := tu D } σ F H fh S (by
  cases r with
  | nx qs => exact absurd rfl (hr qs)
  | rt P => exact k
  | bk ps => exact k
  | ct ps => exact k
  | er e => exact k)
theorem js_rt {P : PV} (h1 : JS K M W ts ps (.rt P)) : JS K M W (tSeq ts tu) ps (.rt P) := js_stop h1 fun _ h => nomatch h
theorem js_er {e : Er} (h1 : JS K M W ts ps (.er e)) : JS K M W (tSeq ts tu) ps (.er e) := js_stop h1 fun _ h => nomatch h
theorem js_set {i : Nat} {P : PV} (h : JV K M W te ps P) : JS K M W (tAsg te (gName i)) ps (.nx (ps.set i (some P))) := fun D σ F H fh S k => h.go fh S fun v F1 H1 e p => k _ F1 H1 e ((S.mono e.ff).set i p)
theorem js_set_er {g : TG} {e : Er} (h : JE K M W te ps (.er e)) : JS K M W (tAsg te g) ps (.er e) := fun D σ F H fh S k => h σ F H _ fh S fun d u F' H' e1 n a b => k d u σ F' H' e1 n a b S.1
theorem js_ret {P : PV} (h : JV K M W te ps P) : JS K M W (tRet te) ps (.rt P) := fun D σ F H fh S k => h.go fh S fun v F1 H1 e p => k v F1 H1 e p
theorem js_ret_er {e : Er} (h : JE K M W te ps (.er e)) : JS K M W (tRet te) ps (.er e) := fun D σ F H fh S k => h σ F H _ fh S fun d u F' H' e1 n a b => k d u σ F' H' e1 n a b S.1
theorem js_retN : JS K M W tRetN ps (.rt (dv K .none)) := fun D σ F H fh S k => k .non F H (Gr.refl fh) .non
theorem js_drop {o : Out} (h : JE K M W te ps o) : JS K M W (tDrop te) ps (o.res ps) := fun D σ F H fh S k => h σ F H _ fh S (by
  cases o with
  | ok P => exact fun v F1 H1 e p => k σ F1 H1 e (S.mono e.ff)
  | er e => exact fun d u F' H' e1 n a b => k d u σ F' H' e1 n a b S.1)
theorem js_if {b : Bool} (h : JT K M W t ps b) (h1 : b = true → JS K M W ts ps r) (h2 : b = false → JS K M W tu ps r) : JS K M W (tIfS t ts tu) ps r := fun D σ F H fh S k => h σ F H _ fh S fun F1 H1 e1 => by
  cases b with
  | true => exact h1 rfl D σ F1 H1 e1.fh (S.mono e1.ff) (Wsh.step e1 k)
  | false => exact h2 rfl D σ F1 H1 e1.fh (S.mono e1.ff) (Wsh.step e1 k)
theorem js_res {r' : Res} (h : JS K M W ts ps r) (e : r = r') : JS K M W ts ps r' := e ▸ h
/-! ### targets -/
/-- a target takes a value that is known -/
structure Upto (vs : List Nat) (σ σ' : L2.St) : Prop where
  len : σ'.length = σ.length
  out : ∀ j, j ∉ vs → σ'[j]? = σ[j]?
theorem Upto.refl (vs : List Nat) (σ : L2.St) : Upto vs σ σ := ⟨rfl, fun _ _ => rfl⟩
theorem Upto.trans {vs : List Nat} {σ τ ρ : L2.St} (a : Upto vs σ τ) (b : Upto vs τ ρ) : Upto vs σ ρ := ⟨b.len.trans a.len, fun j h => (b.out j h).trans (a.out j h)⟩
theorem Upto.set {vs : List Nat} {σ : L2.St} {j : Nat} {x : Option V} (h : j ∈ vs) : Upto vs σ (σ.set j x) := ⟨by rw [List.length_set], fun i hi => by
  rw [List.getElem?_set_ne (fun z => hi (by rw [← z]; exact h))]⟩
theorem wipe_in {σ : L2.St} : ∀ {vs : List Nat} {j : Nat}, j ∈ vs → j < σ.length → (wipe σ vs)[j]? = some none
  | v :: vs, j, h, hl => by
    show ((wipe σ vs).set v none)[j]? = some none
    by_cases e : v = j
    · subst e
      exact List.getElem?_set_self (by rw [wipe_length]; exact hl)
    · rw [List.getElem?_set_ne e]
      rcases List.mem_cons.mp h with z | z
      · exact absurd z.symm e
      · exact wipe_in z hl
theorem wipe_upto {vs : List Nat} {σ σ' : L2.St} (u : Upto vs σ σ') : wipe σ' vs = wipe σ vs := by
  apply List.ext_getElem?
  intro j
  by_cases h : j ∈ vs
  · by_cases hl : j < σ.length
    · rw [wipe_in h hl, wipe_in h (by rw [u.len]; exact hl)]
    · rw [List.getElem?_eq_none (by rw [wipe_length, u.len]; omega), List.getElem?_eq_none (by rw [wipe_length]; omega)]
  · rw [wipe_out h, wipe_out h, u.out j h]
theorem upto_wipe {vs : List Nat} {σ : L2.St} : Upto vs σ (wipe σ vs) := ⟨wipe_length σ vs, fun j h => wipe_out h⟩
def wipeK : Kn → List Nat → Kn
  | ps, [] => ps
  | ps, v :: vs => (wipeK ps vs).set v none
theorem Sl.wipe {H : Hp} {σ : L2.St} {ps : Kn} (S : Sl H σ ps) : ∀ vs : List Nat, Sl H (L2.wipe σ vs) (wipeK ps vs)
  | [] => S
  | v :: vs => (Sl.wipe S vs).forget v none
def JG (vs : List Nat) (g : TG) (ps : Kn) (P : PV) (qs : Kn) : Prop := ∀ v σ F H (Q : L2.St → Hp → Prop), Ex F H → Sl F σ ps → P.p F v → (∀ σ' F' H', Gr F H F' H' → Sl F' σ' qs → Upto vs σ σ' → Q σ' H') → g v σ H Q
def JGs (vs : List Nat) (g : TGs) (ps : Kn) (Ps : List PV) (qs : Kn) : Prop := ∀ us σ F H (Q : L2.St → Hp → Prop), Ex F H → Sl F σ ps → AllP F us Ps → (∀ σ' F' H', Gr F H F' H' → Sl F' σ' qs → Upto vs σ σ' → Q σ' H') → g us σ H Q
variable {vs : List Nat}
theorem jg_name {i : Nat} {P : PV} (h : i ∈ vs := by decide) : JG vs (gName i) ps P (ps.set i (some P)) := fun v σ F H Q fh S p k => k _ F H (Gr.refl fh) (S.set i p) (Upto.set h)
theorem jgs_nil : JGs vs gNil ps [] ps := fun us σ F H Q fh S a k => by
  cases a
  exact ⟨rfl, k σ F H (Gr.refl fh) S (Upto.refl _ _)⟩
theorem jgs_cons {g : TG} {gs : TGs} {P : PV} {Ps : List PV} {rs : Kn} (h : JG vs g ps P qs) (hs : JGs vs gs qs Ps rs) : JGs vs (gCons g gs) ps (P :: Ps) rs := fun us σ F H Q fh S a k => by
  cases a with
  | cons p a =>
    exact ⟨_, _, rfl, h _ σ F H _ fh S p fun σ1 F1 H1 e1 S1 u1 => hs _ σ1 F1 H1 Q e1.fh S1 (a.mono e1.ff) fun σ2 F2 H2 e2 S2 u2 => k σ2 F2 H2 (e1.trans e2) S2 (u1.trans u2)⟩
theorem jg_tup {gs : TGs} {n : Nat} {ds : List PyData} (h : JGs vs gs ps (ds.map (dv K)) qs) (hn : ds.length = n := by rfl) : JG vs (gTup K n gs) ps (dv K (.tuple ds)) qs := fun v σ F H Q fh S p k => by
  obtain ⟨a, xs, rfl, hs, hd⟩ := dp_tup p
  exact ⟨a, xs, rfl, ex_t fh hs, by rw [dpLength hd, hn], h xs σ F H Q fh S (AllP.of_dv hd) k⟩
theorem js_asg {g : TG} {P : PV} (h : JV K M W te ps P) (hg : JG vs g ps P qs) : JS K M W (tAsg te g) ps (.nx qs) := fun D σ F H fh S k =>
  h.go fh S fun v F1 H1 e p => hg v σ F1 H1 _ e.fh (S.mono e.ff) p fun σ2 F2 H2 e2 S2 _ => k σ2 F2 H2 (e.trans e2) S2
theorem js_par {i j : Nat} {P R : PV} {tr : TA} (h : JA K M W tr ps [P, R]) : JS K M W (tPar i j tr) ps (.nx ((ps.set i (some P)).set j (some R))) := fun D σ F H fh S k => h σ F H _ fh S fun us F1 H1 e1 a => by
  obtain ⟨v, u, rfl, p, q⟩ := allP2 a
  exact ⟨v, u, rfl, k _ F1 H1 e1 (((S.mono e1.ff).set i p).set j q)⟩
/-! ### what is walked -/
/-- J walks the data ds, told at F, in every heap above -/
structure ItOf (K : PySem.W.Frag) (J : It) (F : Hp) (ds : List PyData) : Prop where
  stop : ∀ i H', Ex F H' → ds.length ≤ i → J.stop i H'
  go : ∀ i H', Ex F H' → i < ds.length → J.go i H'
  yld : ∀ i d F' H' x H2, Ex F F' → Ex F' H' → ds[i]? = some d → J.yld i H' x H2 → ∃ F2, Gr F' H' F2 H2 ∧ Dp K F2 x d
def JI (K : PySem.W.Frag) (M : EC → Addr) (W : WX) (wi : TI) (ps : Kn) (ds : List PyData) : Prop := ∀ σ F H R, Ex F H → Sl F σ ps → (∀ J F1 H1, Gr F H F1 H1 → ItOf K J F1 ds → R J H1) → wi σ H R
theorem itl_of {a : Addr} {xs : List V} {ds : List PyData} {F : Hp} (hx : SqL K F a xs) (hd : DpAll K F xs ds) : ItOf K (Itl K a) F ds where
  stop := fun i H' e h => ⟨xs, ex_l e hx, by rw [dpLength hd]; exact h⟩
  go := fun i H' e h => by
    have hl : i < xs.length := by rw [dpLength hd]; exact h
    exact ⟨xs, xs[i], ex_l e hx, List.getElem?_eq_getElem hl⟩
  yld := fun i d F' H' x H2 e fh hi y => by
    obtain ⟨rfl, y⟩ := y
    obtain ⟨v, hv, dvv⟩ := dpGet hd hi
    have := y xs (ex_l (e.trans fh) hx)
    rw [hv] at this
    cases this
    exact ⟨F', Gr.refl fh, dp_mono e dvv⟩
theorem itt_of {a : Addr} {xs : List V} {ds : List PyData} {F : Hp} (hx : SqT K F a xs) (hd : DpAll K F xs ds) : ItOf K (Itt K a) F ds where
  stop := fun i H' e h => ⟨xs, ex_t e hx, by rw [dpLength hd]; exact h⟩
  go := fun i H' e h => by
    have hl : i < xs.length := by rw [dpLength hd]; exact h
    exact ⟨xs, xs[i], ex_t e hx, List.getElem?_eq_getElem hl⟩
  yld := fun i d F' H' x H2 e fh hi y => by
    obtain ⟨rfl, y⟩ := y
    obtain ⟨v, hv, dvv⟩ := dpGet hd hi
    have := y xs (ex_t (e.trans fh) hx)
    rw [hv] at this
    cases this
    exact ⟨F', Gr.refl fh, dp_mono e dvv⟩
theorem ji_list {ds : List PyData} (h : JD K M W te ps (.list ds)) : JI K M W (iList K te) ps ds := fun σ F H R fh S k => h.go fh S fun v F1 H1 e p => by
  obtain ⟨a, xs, rfl, hx, hd⟩ := dp_lst p
  exact ⟨a, rfl, ⟨xs, ex_l e.fh hx⟩, k _ F1 H1 e (itl_of hx hd)⟩
theorem ji_tup {ds : List PyData} (h : JD K M W te ps (.tuple ds)) : JI K M W (iTup K te) ps ds := fun σ F H R fh S k => h.go fh S fun v F1 H1 e p => by
  obtain ⟨a, xs, rfl, hx, hd⟩ := dp_tup p
  exact ⟨a, rfl, ⟨xs, ex_t e.fh hx⟩, k _ F1 H1 e (itt_of hx hd)⟩
/-- the ints lo, lo + 1, .. -/
def rg (lo : Int) (n : Nat) : List Int := (List.range n).map fun i => lo + (i : Nat)
theorem rg_length (lo : Int) (n : Nat) : (rg lo n).length = n := by unfold rg; rw [List.length_map, List.length_range]
theorem rg_get {lo : Int} {n i : Nat} (h : i < n) : (rg lo n)[i]? = some (lo + (i : Nat)) := by
  unfold rg
  rw [List.getElem?_map, List.getElem?_range h]
  rfl
theorem itr_of {lo : Int} {n : Nat} {F : Hp} : ItOf K (Itr lo n) F ((rg lo n).map PyData.int) where
  stop := fun i H' e h => by
    rw [List.length_map, rg_length] at h
    exact h
  go := fun i H' e h => by
    rw [List.length_map, rg_length] at h
    exact h
  yld := fun i d F' H' x H2 e fh hi y => by
    obtain ⟨e2, e1⟩ := y
    subst e1
    subst e2
    have hl : i < n := by
      have := (List.getElem?_eq_some_iff.mp hi).1
      rw [List.length_map, rg_length] at this
      exact this
    rw [List.getElem?_map, rg_get hl] at hi
    cases hi
    exact ⟨F', Gr.refl fh, .int _⟩
theorem ji_rng1 {tr : TA} {n : Int} (h : JA K M W tr ps [dv K (.int n)]) (hn : -100000 ≤ n ∧ n ≤ 100000) : JI K M W (iRng1 tr) ps ((rg 0 n.toNat).map PyData.int) := fun σ F H R fh S k => h σ F H _ fh S fun us F1 H1 e1 a => by
  obtain ⟨v, rfl, p⟩ := allP1 a
  rw [dp_int p]
  exact ⟨n, rfl, by omega, by omega, k _ F1 H1 e1 itr_of⟩
theorem ji_rng2 {tr : TA} {lo n : Int} (h : JA K M W tr ps [dv K (.int lo), dv K (.int n)]) (hn : -100000 ≤ lo ∧ lo ≤ 100000 ∧ -100000 ≤ n ∧ n ≤ 100000) : JI K M W (iRng2 tr) ps ((rg lo (n - lo).toNat).map PyData.int) := fun σ F H R fh S k => h σ F H _ fh S fun us F1 H1 e1 a => by
  obtain ⟨v, u, rfl, p, q⟩ := allP2 a
  rw [dp_int p, dp_int q]
  exact ⟨lo, n, rfl, ⟨by omega, by omega, by omega, by omega⟩, k _ F1 H1 e1 itr_of⟩
/-- numbered -/
def nb (ds : List PyData) : List PyData := (List.range ds.length).zipWith (fun i d => PyData.tuple [.int (i : Nat), d]) ds
theorem nb_length (ds : List PyData) : (nb ds).length = ds.length := by unfold nb; simp
theorem nb_get {ds : List PyData} {i : Nat} {d : PyData} (h : ds[i]? = some d) : (nb ds)[i]? = some (.tuple [.int (i : Nat), d]) := by
  have hl := (List.getElem?_eq_some_iff.mp h).1
  unfold nb
  rw [List.getElem?_zipWith, List.getElem?_range hl, h]
theorem ite_of {a : Addr} {xs : List V} {ds : List PyData} {F : Hp} (hx : SqL K F a xs) (hd : DpAll K F xs ds) : ItOf K (Ite K a) F (nb ds) where
  stop := fun i H' e h => ⟨xs, ex_l e hx, by rw [dpLength hd]; rw [nb_length] at h; exact h⟩
  go := fun i H' e h => by
    have hl : i < xs.length := by rw [dpLength hd]; rw [nb_length] at h; exact h
    exact ⟨xs, xs[i], ex_l e hx, List.getElem?_eq_getElem hl⟩
  yld := fun i d F' H' x H2 e fh hi y => by
    obtain ⟨T, y0, rfl, nT, rfl, f⟩ := y
    have hl : i < ds.length := by
      have := (List.getElem?_eq_some_iff.mp hi).1
      rw [nb_length] at this
      exact this
    rw [nb_get (List.getElem?_eq_getElem hl)] at hi
    cases hi
    obtain ⟨v, hv, dvv⟩ := dpGet hd (List.getElem?_eq_getElem hl)
    have := f xs (ex_l (e.trans fh) hx)
    rw [hv] at this
    cases this
    exact ⟨_, Gr.new fh nT, .tup (st_of upd_same) (.cons (.int _) (.cons (dp_mono (e.trans (Gr.new (o := .tup [.int (i : Nat), y0]) fh nT).ff) dvv) .nil))⟩
theorem iteT_of {a : Addr} {xs : List V} {ds : List PyData} {F : Hp} (hx : SqT K F a xs) (hd : DpAll K F xs ds) : ItOf K (IteT K a) F (nb ds) where
  stop := fun i H' e h => ⟨xs, ex_t e hx, by rw [dpLength hd]; rw [nb_length] at h; exact h⟩
  go := fun i H' e h => by
    have hl : i < xs.length := by rw [dpLength hd]; rw [nb_length] at h; exact h
    exact ⟨xs, xs[i], ex_t e hx, List.getElem?_eq_getElem hl⟩
  yld := fun i d F' H' x H2 e fh hi y => by
    obtain ⟨T, y0, rfl, nT, rfl, f⟩ := y
    have hl : i < ds.length := by
      have := (List.getElem?_eq_some_iff.mp hi).1
      rw [nb_length] at this
      exact this
    rw [nb_get (List.getElem?_eq_getElem hl)] at hi
    cases hi
    obtain ⟨v, hv, dvv⟩ := dpGet hd (List.getElem?_eq_getElem hl)
    have := f xs (ex_t (e.trans fh) hx)
    rw [hv] at this
    cases this
    exact ⟨_, Gr.new fh nT, .tup (st_of upd_same) (.cons (.int _) (.cons (dp_mono (e.trans (Gr.new (o := .tup [.int (i : Nat), y0]) fh nT).ff) dvv) .nil))⟩
theorem ji_enum {ds : List PyData} (h : JD K M W te ps (.list ds)) : JI K M W (iEnum K (tCons te tNil)) ps (nb ds) := fun σ F H R fh S k => h.go fh S fun v F1 H1 e p => by
  obtain ⟨a, xs, rfl, hx, hd⟩ := dp_lst p
  exact ⟨a, xs, rfl, ex_l e.fh hx, k _ F1 H1 e (ite_of hx hd)⟩
theorem ji_enumT {ds : List PyData} (h : JD K M W te ps (.tuple ds)) : JI K M W (iEnumT K (tCons te tNil)) ps (nb ds) := fun σ F H R fh S k => h.go fh S fun v F1 H1 e p => by
  obtain ⟨a, xs, rfl, hx, hd⟩ := dp_tup p
  exact ⟨a, xs, rfl, ex_t e.fh hx, k _ F1 H1 e (iteT_of hx hd)⟩
theorem ji_is {wi : TI} {ds es : List PyData} (h : JI K M W wi ps ds) (e : ds = es) : JI K M W wi ps es := e ▸ h
/-- a for: m turns go on (f tells what is known ahead of each), then it ends, or the turn m leaves it by r -/
theorem js_for {wi : TI} {g : TG} {ds : List PyData} {tb : TS} (f : Nat → Kn) (m : Nat) (hi : JI K M W wi ps ds) (h0 : f 0 = ps) (hm : m ≤ ds.length)
    (hs : ∀ i d, i < m → ds[i]? = some d → ∃ qs, JG vs g (f i) (dv K d) qs ∧ (JS K M W tb qs (.nx (f (i + 1))) ∨ JS K M W tb qs (.ct (f (i + 1)))))
    (he : (m = ds.length ∧ r = .nx (f m)) ∨ (∃ d qs, ds[m]? = some d ∧ JG vs g (f m) (dv K d) qs ∧ JS K M W tb qs r ∧ ((∃ P, r = .rt P) ∨ ∃ e, r = .er e)))
    (hf : ∀ i, (f i).length = ps.length := by intro i; first | rfl | (simp; done)) : JS K M W (tFor wi g tb) ps r := fun D σ F H fh S k => hi σ F H _ fh S fun J F1 H1 e1 it => by
  refine ⟨fun i n σ' H' => n = ds.length - i ∧ i ≤ m ∧ ∃ F', Gr F1 H1 F' H' ∧ Sl F' σ' (f i), ⟨ds.length, by omega, Nat.zero_le _, F1, Gr.refl e1.fh, by rw [h0]; exact S.mono e1.ff⟩, ?_⟩
  rintro i n σ' H' ⟨rfl, him, F2, e2, S2⟩
  by_cases hlt : i < m
  · have hl : i < ds.length := Nat.lt_of_lt_of_le hlt hm
    refine .inr ⟨it.go i H' (e2.ff.trans e2.fh) hl, fun σ3 H3 => ∃ F3, Gr F1 H1 F3 H3 ∧ Sl F3 σ3 (f (i + 1)), fun σ3 H3 q => ⟨ds.length - (i + 1), by omega, rfl, hlt, q⟩, fun x H3 y => ?_⟩
    obtain ⟨F3, e3, dx⟩ := it.yld i _ F2 H' x H3 e2.ff e2.fh (List.getElem?_eq_getElem hl) y
    obtain ⟨qs, hg, hb⟩ := hs i _ hlt (List.getElem?_eq_getElem hl)
    refine hg x σ' F3 H3 _ e3.fh (S2.mono e3.ff) dx fun σ4 F4 H4 e4 S4 _ => ?_
    rcases hb with hb | hb
    · exact hb _ σ4 F4 H4 e4.fh S4 fun σ5 F5 H5 e5 S5 => ⟨F5, ((e2.trans e3).trans e4).trans e5, S5⟩
    · exact hb _ σ4 F4 H4 e4.fh S4 fun σ5 F5 H5 e5 S5 => ⟨F5, ((e2.trans e3).trans e4).trans e5, S5⟩
  · have hem : i = m := by omega
    subst hem
    rcases he with ⟨hlen, hr⟩ | ⟨d, qs, hd, hg, hb, hr⟩
    · subst hr
      exact .inl ⟨it.stop i H' (e2.ff.trans e2.fh) (by omega), k σ' F2 H' (e1.trans e2) S2⟩
    · have hl : i < ds.length := (List.getElem?_eq_some_iff.mp hd).1
      refine .inr ⟨it.go i H' (e2.ff.trans e2.fh) hl, fun _ _ => False, fun _ _ z => z.elim, fun x H3 y => ?_⟩
      obtain ⟨F3, e3, dx⟩ := it.yld i _ F2 H' x H3 e2.ff e2.fh hd y
      refine hg x σ' F3 H3 _ e3.fh (S2.mono e3.ff) dx fun σ4 F4 H4 e4 S4 u4 => hb _ σ4 F4 H4 e4.fh S4 ?_
      have ql : qs.length = ps.length := by rw [← S4.1, u4.len, S2.1, hf]
      rw [ql]
      have k2 := Wsh.step (((e1.trans e2).trans e3).trans e4) k
      rcases hr with ⟨P, rfl⟩ | ⟨e, rfl⟩
      · exact k2
      · exact k2
/-! ### comprehensions -/
theorem filter_take_succ {α : Type} {b : α → Bool} {xs : List α} {i : Nat} {x : α} (h : xs[i]? = some x) : (xs.take (i + 1)).filter b = (xs.take i).filter b ++ (if b x then [x] else []) := by
  rw [List.take_succ, h, List.filter_append]
  cases hb : b x <;> simp [hb]
/-- a list that grows lies at D: not told at F -/
structure Acc (K : PySem.W.Frag) (D : Addr) (F1 H1 F H : Hp) (ds : List PyData) : Prop where
  gr : Gr F1 H1 F H
  off : F D = none
  at_ : ∃ acc, H D = some (.lst acc) ∧ DpAll K F acc ds
theorem gr_mut {F1 H1 F H : Hp} {D : Addr} {o : HO} (g : Gr F1 H1 F H) (h1 : H1 D = none) (off : F D = none) : Gr F1 H1 F (upd H D o) := ⟨g.ff, g.hh.mut h1, g.fh.mut off, g.nw⟩
theorem gr_in {F1 H1 F H : Hp} {D : Addr} {o : HO} (g : Gr F1 H1 F H) (h1 : H1 D = none) (off : F D = none) (at_ : H D = some o) : Gr F1 H1 (upd F D o) H := ⟨g.ff.trans (Ex.new off), g.hh, fun a u e => by
  by_cases z : a = D
  · subst z
    rw [upd_same] at e
    cases e
    exact at_
  · rw [upd_ne z] at e
    exact g.fh a u e, fun a ha hf => by
  have : a ≠ D := fun z => by
    subst z
    exact ha h1
  rw [upd_ne this]
  exact g.nw a ha hf⟩
theorem Acc.start {D : Addr} {F H : Hp} (fh : Ex F H) (hD : H D = none) : Acc K D F H F (upd H D (.lst [])) [] := ⟨gr_mut (Gr.refl fh) hD (fresh_back fh hD), fresh_back fh hD, [], upd_same, .nil⟩
theorem Acc.step {D : Addr} {F1 H1 F H F2 H2 : Hp} {ds : List PyData} (a : Acc K D F1 H1 F H ds) (g : Gr F H F2 H2) : Acc K D F1 H1 F2 H2 ds := by
  obtain ⟨acc, h, d⟩ := a.at_
  exact ⟨a.gr.trans g, g.nw D (by rw [h]; exact fun z => nomatch z) a.off, acc, g.hh _ _ h, dpAll_mono g.ff d⟩
theorem Acc.app {D : Addr} {F1 H1 F H : Hp} {ds : List PyData} {v : V} {d : PyData} {acc : List V} (a : Acc K D F1 H1 F H ds) (h1 : H1 D = none) (hacc : H D = some (.lst acc)) (p : Dp K F v d) : Acc K D F1 H1 F (upd H D (.lst (acc ++ [v]))) (ds ++ [d]) := by
  obtain ⟨acc2, h, dd⟩ := a.at_
  rw [hacc] at h
  cases h
  exact ⟨gr_mut a.gr h1 a.off, a.off, _, upd_same, dpApp dd (.cons p .nil)⟩
theorem Acc.len {D : Addr} {F1 H1 F H : Hp} {ds : List PyData} {acc : List V} (a : Acc K D F1 H1 F H ds) (hacc : H D = some (.lst acc)) : acc.length = ds.length := by
  obtain ⟨acc2, h, dd⟩ := a.at_
  rw [hacc] at h
  cases h
  exact dpLength dd
/-- it is told from now on -/
theorem Acc.done {D : Addr} {F1 H1 F H : Hp} {ds : List PyData} (a : Acc K D F1 H1 F H ds) (h1 : H1 D = none) : ∃ F', Gr F1 H1 F' H ∧ Dp K F' (.ref D) (.list ds) ∧ Ex F F' := by
  obtain ⟨acc, h, dd⟩ := a.at_
  exact ⟨upd F D (.lst acc), gr_in a.gr h1 a.off h, .lst (sq_of upd_same) (dpAll_mono (Ex.new a.off) dd), Ex.new a.off⟩
/-- [e for x in ds if b], the items told by xs -/
theorem je_lc {α : Type} {wi : TI} {g : TG} (xs : List α) (enc : α → PyData) (b : α → Bool) (e : α → PyData) {W' : WX} (hi : JI K M W wi ps (xs.map enc)) (hlen : xs.length ≤ 90000)
    (hs : ∀ x ∈ xs, ∃ qs, JG vs g (wipeK ps vs) (dv K (enc x)) qs ∧ JT K M W' t qs (b x) ∧ (b x = true → JD K M W' te qs (e x))) : JD K M W (tLc wi g t te vs) ps (.list ((xs.filter b).map e)) := fun σ F H Q fh S k => hi σ F H _ fh S fun J F1 H1 e1 it D hD => by
  refine ⟨fun i n H' => n = xs.length - i ∧ i ≤ xs.length ∧ ∃ F', Acc K D F1 H1 F' H' (((xs.take i).filter b).map e), ⟨xs.length, by omega, Nat.zero_le _, F1, Acc.start e1.fh hD⟩, ?_⟩
  rintro i n H' ⟨rfl, him, F2, A⟩
  have accLen : (((xs.take i).filter b).map e).length ≤ i := by
    rw [List.length_map]
    have := List.length_filter_le b (xs.take i)
    rw [List.length_take] at this
    omega
  by_cases hlt : i < xs.length
  · have hx : xs[i]? = some xs[i] := List.getElem?_eq_getElem hlt
    have hmem : xs[i] ∈ xs := List.getElem_mem hlt
    have hex : (xs.map enc)[i]? = some (enc xs[i]) := by rw [List.getElem?_map, hx] <;> rfl
    refine .inr ⟨it.go i H' (A.gr.ff.trans A.gr.fh) (by rw [List.length_map]; exact hlt), fun H3 => ∃ F3, Acc K D F1 H1 F3 H3 (((xs.take (i + 1)).filter b).map e), fun H3 q => ⟨xs.length - (i + 1), by omega, rfl, hlt, q⟩, fun x H3 y => ?_⟩
    obtain ⟨F3, e3, dx⟩ := it.yld i _ F2 H' x H3 A.gr.ff A.gr.fh hex y
    have A3 := A.step e3
    obtain ⟨qs, hg, ht, he⟩ := hs xs[i] hmem
    refine hg x (wipe σ vs) F3 H3 _ e3.fh ((S.mono (e1.ff.trans A3.gr.ff)).wipe vs) dx fun σ4 F4 H4 e4 S4 u4 => ⟨wipe_upto (upto_wipe.trans u4), ht σ4 F4 H4 _ e4.fh S4 fun F5 H5 e5 => ?_⟩
    have A5 := (A3.step e4).step e5
    have ff := filter_take_succ (b := b) hx
    cases hb : b xs[i] with
    | true =>
      rw [hb] at ff
      show te σ4 H5 _
      refine (he hb).go e5.fh (S4.mono e5.ff) fun v F6 H6 e6 p => ?_
      have A6 := A5.step e6
      obtain ⟨acc, h6, _⟩ := A6.at_
      refine ⟨acc, h6, sz_lt (by rw [A6.len h6]; omega), F6, ?_⟩
      rw [ff, List.map_append]
      exact A6.app hD h6 p
    | false =>
      rw [hb] at ff
      show ∃ F3, Acc K D F1 H1 F3 H5 _
      rw [ff]
      simp only [Bool.false_eq_true, if_false, List.append_nil]
      exact ⟨F5, A5⟩
  · have hem : i = xs.length := by omega
    subst hem
    rw [List.take_length] at A
    obtain ⟨F3, g3, d3, _⟩ := A.done hD
    exact .inl ⟨it.stop _ H' (A.gr.ff.trans A.gr.fh) (by rw [List.length_map]; exact Nat.le_refl _), k _ F3 H' (e1.trans g3) d3⟩
theorem flatMap_take_succ {α β : Type} {f : α → List β} {xs : List α} {i : Nat} {x : α} (h : xs[i]? = some x) : (xs.take (i + 1)).flatMap f = (xs.take i).flatMap f ++ f x := by
  rw [List.take_succ, h, List.flatMap_append]
  simp
theorem flatMap_take_le {α β : Type} (f : α → List β) (xs : List α) (i : Nat) : ((xs.take i).flatMap f).length ≤ (xs.flatMap f).length := by
  conv => rhs; rw [← List.take_append_drop i xs]
  rw [List.flatMap_append, List.length_append]
  omega
/-- [e for x in ds for y in (those of x) if b], the first clause without a test -/
theorem je_lc2 {α β : Type} {wi wi1 : TI} {g g1 : TG} {u : TT} {vs1 : List Nat} (xs : List α) (ys : α → List β) (enc : α → PyData) (enc1 : β → PyData) (b : α → β → Bool) (e : α → β → PyData) {W' : WX} (hi : JI K M W wi ps (xs.map enc))
    (hlen : (xs.flatMap fun x => ((ys x).filter (b x)).map (e x)).length ≤ 90000)
    (hs : ∀ x ∈ xs, ∃ qs, JG vs g (wipeK ps vs) (dv K (enc x)) qs ∧ JT K M W' t qs true ∧ JI K M W' wi1 qs ((ys x).map enc1) ∧
      ∀ y ∈ ys x, ∃ rs, JG vs1 g1 (wipeK qs vs1) (dv K (enc1 y)) rs ∧ JT K M W' u rs (b x y) ∧ (b x y = true → JD K M W' te rs (e x y))) :
    JD K M W (tLc2 wi g t wi1 g1 u te vs vs1) ps (.list (xs.flatMap fun x => ((ys x).filter (b x)).map (e x))) := fun σ F H Q fh S k => hi σ F H _ fh S fun J F1 H1 e1 it D hD => by
  let out : α → List PyData := fun x => ((ys x).filter (b x)).map (e x)
  refine ⟨fun i n H' => n = xs.length - i ∧ i ≤ xs.length ∧ ∃ F', Acc K D F1 H1 F' H' ((xs.take i).flatMap out), ⟨xs.length, by omega, Nat.zero_le _, F1, Acc.start e1.fh hD⟩, ?_⟩
  rintro i n H' ⟨rfl, him, F2, A⟩
  by_cases hlt : i < xs.length
  · have hx : xs[i]? = some xs[i] := List.getElem?_eq_getElem hlt
    have hmem : xs[i] ∈ xs := List.getElem_mem hlt
    have hex : (xs.map enc)[i]? = some (enc xs[i]) := by rw [List.getElem?_map, hx] <;> rfl
    refine .inr ⟨it.go i H' (A.gr.ff.trans A.gr.fh) (by rw [List.length_map]; exact hlt), fun H3 => ∃ F3, Acc K D F1 H1 F3 H3 ((xs.take (i + 1)).flatMap out), fun H3 q => ⟨xs.length - (i + 1), by omega, rfl, hlt, q⟩, fun x H3 y => ?_⟩
    obtain ⟨F3, e3, dx⟩ := it.yld i _ F2 H' x H3 A.gr.ff A.gr.fh hex y
    have A3 := A.step e3
    obtain ⟨qs, hg, ht, hi1, hin⟩ := hs xs[i] hmem
    refine hg x (wipe σ vs) F3 H3 _ e3.fh ((S.mono (e1.ff.trans A3.gr.ff)).wipe vs) dx fun σ4 F4 H4 e4 S4 u4 => ⟨wipe_upto (upto_wipe.trans u4), ht σ4 F4 H4 _ e4.fh S4 fun F5 H5 e5 => ?_⟩
    have A5 := (A3.step e4).step e5
    show wi1 σ4 H5 _
    refine hi1 σ4 F5 H5 _ e5.fh (S4.mono e5.ff) fun J1 F6 H6 e6 it1 => ?_
    have A6 := A5.step e6
    have pre := flatMap_take_le out xs (i + 1)
    rw [flatMap_take_succ hx, List.length_append] at pre
    refine ⟨fun j n H' => n = (ys xs[i]).length - j ∧ j ≤ (ys xs[i]).length ∧ ∃ F', Ex F6 F' ∧ Acc K D F1 H1 F' H' ((xs.take i).flatMap out ++ (((ys xs[i]).take j).filter (b xs[i])).map (e xs[i])), ⟨(ys xs[i]).length, by omega, Nat.zero_le _, F6, Ex.refl _, by simpa using A6⟩, ?_⟩
    rintro j n H7 ⟨rfl, hj, F7, x67, A7⟩
    by_cases hjl : j < (ys xs[i]).length
    · have hy : (ys xs[i])[j]? = some (ys xs[i])[j] := List.getElem?_eq_getElem hjl
      have ymem : (ys xs[i])[j] ∈ ys xs[i] := List.getElem_mem hjl
      have hey : ((ys xs[i]).map enc1)[j]? = some (enc1 (ys xs[i])[j]) := by rw [List.getElem?_map, hy] <;> rfl
      refine .inr ⟨it1.go j H7 (x67.trans A7.gr.fh) (by rw [List.length_map]; exact hjl), fun H8 => ∃ F8, Ex F6 F8 ∧ Acc K D F1 H1 F8 H8 ((xs.take i).flatMap out ++ (((ys xs[i]).take (j + 1)).filter (b xs[i])).map (e xs[i])), fun H8 q => ⟨(ys xs[i]).length - (j + 1), by omega, rfl, hjl, q⟩, fun x1 H8 y1 => ?_⟩
      obtain ⟨F8, e8, dy⟩ := it1.yld j _ F7 H7 x1 H8 x67 A7.gr.fh hey y1
      have A8 := A7.step e8
      obtain ⟨rs, hg1, ht1, he1⟩ := hin _ ymem
      refine hg1 x1 (wipe σ4 vs1) F8 H8 _ e8.fh ((S4.mono ((e5.ff.trans e6.ff).trans (x67.trans e8.ff))).wipe vs1) dy fun σ9 F9 H9 e9 S9 u9 => ⟨wipe_upto (upto_wipe.trans u9), ht1 σ9 F9 H9 _ e9.fh S9 fun Fa Ha ea => ?_⟩
      have Aa := (A8.step e9).step ea
      have ff := filter_take_succ (b := b xs[i]) hy
      have pre2 : (((ys xs[i]).take j).filter (b xs[i])).length ≤ ((ys xs[i]).filter (b xs[i])).length := by
        conv => rhs; rw [← List.take_append_drop j (ys xs[i])]
        rw [List.filter_append, List.length_append]
        omega
      have lout : (out xs[i]).length = ((ys xs[i]).filter (b xs[i])).length := List.length_map _
      cases hb : b xs[i] (ys xs[i])[j] with
      | true =>
        rw [hb] at ff
        show te σ9 Ha _
        refine (he1 hb).go ea.fh (S9.mono ea.ff) fun v Fb Hb eb p => ?_
        have Ab := Aa.step eb
        obtain ⟨acc, hb6, _⟩ := Ab.at_
        refine ⟨acc, hb6, sz_lt ?_, Fb, ((x67.trans e8.ff).trans e9.ff).trans (ea.ff.trans eb.ff), ?_⟩
        · rw [Ab.len hb6, List.length_append, List.length_map]
          have h1 : (xs.flatMap out).length ≤ 90000 := hlen
          omega
        · rw [ff, List.map_append, ← List.append_assoc]
          exact Ab.app hD hb6 p
      | false =>
        rw [hb] at ff
        show ∃ F8, Ex F6 F8 ∧ Acc K D F1 H1 F8 Ha _
        rw [ff]
        simp only [Bool.false_eq_true, if_false, List.append_nil]
        exact ⟨Fa, ((x67.trans e8.ff).trans e9.ff).trans ea.ff, Aa⟩
    · have hem : j = (ys xs[i]).length := by omega
      subst hem
      rw [List.take_length] at A7
      refine .inl ⟨it1.stop _ H7 (x67.trans A7.gr.fh) (by rw [List.length_map]; exact Nat.le_refl _), F7, ?_⟩
      rw [flatMap_take_succ hx]
      exact A7
  · have hem : i = xs.length := by omega
    subst hem
    rw [List.take_length] at A
    obtain ⟨F3, g3, d3, _⟩ := A.done hD
    exact .inl ⟨it.stop _ H' (A.gr.ff.trans A.gr.fh) (by rw [List.length_map]; exact Nat.le_refl _), k _ F3 H' (e1.trans g3) d3⟩
end
end EB

/-! EB5: errors with a field, raise, methods and making where what is raised is wished for at the slots, fields, isinstance, try. -/
namespace EB
open PySem PySem.Spec PyProof.Rows L2 Evl
/-! ### rules -/
section
variable {X : Cx} {CX : CXT} {k : Nat} {f C : Addr} {fd : FuncData} {ps : List Str} {sp : Sp} {E : L2.St → XK} {x m : Str} {p pos apos : Pos} {e o : Expr} {es : List Expr} {ta : TE} {t : TA}
/-- C(..), at the slots -/
def tMakeS (C : Addr) (sp : Sp) (E : L2.St → XK) (t : TA) : TE := fun σ H Q => tMake C sp [] (E σ) t σ H Q
theorem pe_makeS (M : Mk X.K C f) (F : FnOk X.prog X.w X.K X.mg X.base CX k f fd ps sp) (hr : Room (k + 1) X.A) (hg : Gl X x) (hm : X.mg x = some (.ref C)) (hb : Binds X.K fd ps []) (hx : ∀ σ, PassesAt CX X σ (E σ))
    (ha : PA X (e :: es) t) (hdb : (x == ("__debug__" : Str)) = false := by decide) (he : starEach (e :: es) X.env = (false, eval e X.env) :: starEach es X.env := by rfl) (hpl : (backTo pos (starEach es X.env)).any (·.1) = false := by rfl) :
    PE X (.Call (.Name x p) (e :: es) [] pos) (tMakeS C sp E t) := by
  refine ⟨fun pins s σ H Q I hyp => wpAny_Call_Name_kw (ld_glob I hg hm ?_ hdb)⟩
  refine PySem.W.callWith_K (h₀ := X.base) I.ok.mod.kin M.kp (thn (ha.run pos pins s σ H _ I hyp) fun us t1 ⟨vs, H1, I1, rr, want⟩ => ⟨I1.kIn, ?_⟩) he hpl
  have w1 := want (t1.heap.objs.size + 1) t1.heap.objs.size (I1.hok.fresh (Nat.le_succ _)) (I1.hok.fresh (Nat.le_refl _)) (Nat.ne_of_lt (Nat.lt_succ_self _))
  rw [List.append_nil] at w1
  have I2 := Inv.made (C := C) I1
  have r2 : Vals (V.ref (t1.heap.objs.size + 1) :: vs) (Value.ref (t1.heap.objs.size + 1) :: us) := .cons rfl rr
  have len2 : (Value.ref (t1.heap.objs.size + 1) :: us).length = ps.length := by
    have q := r2.length
    rw [F.len _ _ _ _ w1] at q
    exact q.symm
  have bnd := hb _ (Value.ref (t1.heap.objs.size + 1) :: us) I2.kIn (by rw [List.append_nil]; exact len2)
  rw [List.append_nil] at bnd
  refine wpAny_call (make_map (f := f) I1.kIn M.makes M.init (beq_iff_eq.mp M.fn) (codeAny_mono (F.run _ X.stack _ _ ⟨Value.ref (t1.heap.objs.size + 1) :: us, []⟩ (Value.ref (t1.heap.objs.size + 1) :: us) _ _ (E σ) (hr.make C us [])
    (I2.env0.make C us []) bnd r2 w1) fun r t2 got => ?_))
  cases r with
  | error er => exact hx σ pins _ _ er t2 I2 got
  | ok fl =>
    cases fl with
    | ret u =>
      obtain ⟨v, H2, I3, rv, ev, q3⟩ := I2.after got
      subst ev
      exact ⟨rv, ⟨V.ref (t1.heap.objs.size + 1), H2, I3, rfl, q3⟩⟩
    | next => exact got.elim
    | brk => exact got.elim
    | cont => exact got.elim
/-- o.m(e, ..), at the slots -/
def tMethW (C : Addr) (m : Str) (sp : Sp) (E : L2.St → XK) (ta : TE) (t : TA) : TE := fun σ H Q => tMeth C m sp [] (E σ) ta t σ H Q
theorem pe_methW {pl : Sem Bool} (he : PE X o ta) (c : Cls X.K C) (hm : Meth X.K C m f) (F : FnOk X.prog X.w X.K X.mg X.base CX k f fd ps sp) (hr : Room k X.A) (hb : Binds X.K fd ps []) (hx : ∀ σ, PassesAt CX X σ (E σ)) (ha : PA X (e :: es) t)
    (hst : starEach (e :: es) X.env = (false, eval e X.env) :: starEach es X.env := by rfl) (hpl : (backTo pos (starEach es X.env)).any (·.1) = false := by rfl)
    (ht : eval (.Call (.Attribute o m apos) (e :: es) [] pos) X.env = (do
      let whom ← eval o X.env
      standAt apos.atName
      let (fn, before) ← holding [whom] (getMethod whom m pl)
      callWith pos fn before (backTo pos (starEach (e :: es) X.env)) (backToKw pos (keywordEach [] X.env))) := by rfl) :
    PE X (.Call (.Attribute o m apos) (e :: es) [] pos) (tMethW C m sp E ta t) := by
  refine ⟨fun pins s σ H Q I hyp => PySem.W.methodCall_KW (pl := pl) (thn (he.run pins s σ H _ I hyp) fun u t1 ⟨x, H1, I1, rx, a, dx, fs, ex, ea, l, q⟩ => ?_) ht⟩
  subst ex
  obtain rfl : u = Value.ref a := rx
  refine getmeth_ok I1 ea c hm l (PySem.W.callWith_K (first := [.ref a]) (h₀ := X.base) I.ok.mod.kin hm.kp (thn (ha.run pos pins t1 σ H1 _ I1 q) fun us t2 ⟨vs, H2, I2, r, q2⟩ => ⟨I2.kIn, ?_⟩) hst hpl)
  have q3 := q2
  dsimp only at q3
  rw [List.append_nil] at q3
  exact run_fnS (us := .ref a :: us) (vs := .ref a :: vs) F hr hb (hx σ) I2 (.cons rfl r) q3
theorem pe_methW0 {pl : Sem Bool} (he : PE X o ta) (c : Cls X.K C) (hm : Meth X.K C m f) (F : FnOk X.prog X.w X.K X.mg X.base CX k f fd ps sp) (hr : Room k X.A) (hb : Binds X.K fd ps []) (hx : ∀ σ, PassesAt CX X σ (E σ))
    (ht : eval (.Call (.Attribute o m apos) [] [] pos) X.env = (do
      let whom ← eval o X.env
      standAt apos.atName
      let (fn, before) ← holding [whom] (getMethod whom m pl)
      callWith pos fn before (backTo pos (starEach [] X.env)) (backToKw pos (keywordEach [] X.env))) := by rfl) :
    PE X (.Call (.Attribute o m apos) [] [] pos) (tMethW C m sp E ta tNil) := by
  refine ⟨fun pins s σ H Q I hyp => PySem.W.methodCall_KW (pl := pl) (thn (he.run pins s σ H _ I hyp) fun u t1 ⟨x, H1, I1, rx, a, dx, fs, ex, ea, l, q⟩ => ?_) ht⟩
  subst ex
  obtain rfl : u = Value.ref a := rx
  exact getmeth_ok I1 ea c hm l (PySem.W.callWith_K0 (first := [.ref a]) I1.kIn hm.kp (run_fnS (us := [.ref a]) (vs := [.ref a]) F hr hb (hx σ) I1 (.cons rfl .nil) q))
end
/-! ### an error's class -/
/-- __init__(self, f): self.f = f -/
def spErr (C : Addr) (f : Str) : Sp := fun vs H Q _ => ∃ a u, vs = [.ref a, u] ∧ H a = some (exo a C none) ∧ ∀ dx, H dx = none → dx ≠ a → Q .non (upd (upd H dx (exd dx [(f, u)])) a (exo a C (some dx)))
/-- what the written part says of an error's class C (its __init__ at fI) -/
structure ErT (K : PySem.W.Frag) (C fI : Addr) (f : Str) : Prop where
  ox : OexC K C
  iC : PySem.W.findIn K (.ref C) "__init__" = some (some (.ref fI))
  tI : PySem.W.typeIn K (.ref fI) = some (.type "function")
  nf : PySem.W.findIn K (.ref C) f = some none
  xf : XfC K C
  ek : ExK K C
section
variable {K : PySem.W.Frag} {M : EC → Addr} {W : WX} {ps qs : Kn} {te ta tb : TE} {tr : TA} {t : TT} {ts tu : TS} {r : Res}
/-- raise C(e) -/
def tRs (C : Addr) (f : Str) (W : WX) (tr : TA) : TS := fun _ σ H => tMkO C (spErr C f) [] tr σ H fun cls d H' => W cls d σ H'
theorem js_raise {c : EC} {d : PyData} (h : JA K M W tr ps [dv K d]) : JS K M W (tRs (M c) c.fld W tr) ps (.er ⟨c, d⟩) := fun D σ F H fh S k => h σ F H _ fh S fun vs F1 H1 e1 a => by
  obtain ⟨v, rfl, p⟩ := allP1 a
  refine ⟨by show 1 ≤ 1000; decide, fun x hx => ⟨x, v, rfl, upd_same, fun dx hdx ne => ⟨rfl, dx, [(c.fld, v)], upd_same, ?_, ?_, ?_⟩⟩⟩
  · rw [upd_ne ne, upd_same]
  · rw [upd_ne ne] at hdx
    exact hdx
  · have h1 : H1 dx = none := by
      rw [upd_ne ne] at hdx
      exact hdx
    have key : Ex H1 (upd (del (upd (upd (upd H1 x (exo x (M c) none)) dx (exd dx [(c.fld, v)])) x (exo x (M c) (some dx))) x) dx (.xd [(c.fld, v)])) := fun b u q => by
      have nx : b ≠ x := ne_of_none q hx
      have nd : b ≠ dx := ne_of_none q h1
      rw [upd_ne nd, del_ne nx, upd_ne nx, upd_ne nd, upd_ne nx]
      exact q
    exact k dx v σ F1 _ (e1.trans (Gr.heap e1.fh key)) (fresh_back e1.hh h1) upd_same p S.1
/-! ### objects: a floor -/
def pD (p : Int × Int) : PyData := .tuple [.int p.1, .int p.2]
/-- an instance of C with one attribute, data that never changes -/
def ob1 (K : PySem.W.Frag) (C : Addr) (f : Str) (d : PyData) : PV := ⟨fun H v => ∃ a dx u, v = .ref a ∧ H a = some (.ins C dx [(f, u)]) ∧ Dp K H u d, fun e h => by
  obtain ⟨a, dx, u, h1, h2, h3⟩ := h
  exact ⟨a, dx, u, h1, e _ _ h2, dp_mono e h3⟩⟩
theorem je_fld {C : Addr} {f : Str} {d : PyData} (h : JV K M W te ps (ob1 K C f d)) (c : Cls K C) (n : NoAttr K C f) : JD K M W (tFld K te f) ps d := fun σ F H Q fh S k => h.go fh S fun v F1 H1 e p => by
  obtain ⟨a, dx, u, rfl, ha, hd⟩ := p
  exact ⟨a, C, dx, [(f, u)], u, rfl, e.fh _ _ ha, c, n, by simp [List.lookup], k u F1 H1 e hd⟩
/-- a constant of a class, read off the class -/
theorem je_cval {C : Addr} {mc : Value} {f : Str} {v : V} {u : Value} {P : PV} (h : JV K M W te ps (xv (.ref C))) (r : ClX.CRead K C mc) (c : ClX.CVal K C mc f v u) (hp : ∀ H, P.p H v) : JV K M W (ClX.tCVal K te f) ps P := fun σ F H Q fh S k => h.go fh S fun x F1 H1 e p => ⟨C, mc, v, u, p, r, c, k v F1 H1 e (hp F1)⟩
/-- a method that keeps a promise over data; self is known -/
theorem je_meth {α : Type} {args : α → List PV} {dom : α → Prop} {out : α → Out} {C : Addr} {m f : Str} {d : PyData} (a : α) (hs : JV K M W te ps (ob1 K C f d)) (hm : ¬ m = f) (Ps : List PV) (h : JA K M W tr ps Ps) (ea : args a = ob1 K C f d :: Ps) (hd : dom a) :
    JE K M W (tMethW C m (Prm K M args dom out) (WE W) te tr) ps (out a) := fun σ F H Q fh S k => hs.go fh S fun v F1 H1 e1 p => by
  obtain ⟨b, dx, u, rfl, hb, hdp⟩ := id p
  refine ⟨b, dx, [(f, u)], rfl, e1.fh _ _ hb, ?_, h σ F1 H1 _ e1.fh (S.mono e1.ff) fun vs F2 H2 e2 al => ⟨a, F2, e2.fh, ?_, hd, Then.step (e1.trans e2) k⟩⟩
  · have : (m == f) = false := by simpa using hm
    simp [List.lookup, this]
  · rw [ea, List.append_nil]
    exact .cons (PV.mn _ e2.ff p) al
/-- C(e) where __init__ promises: an instance with one attribute, or an error -/
def spMake (K : PySem.W.Frag) (M : EC → Addr) (C : Addr) (f : Str) {α : Type} (args : α → List PV) (dom : α → Prop) (out : α → Except Er PyData) : Sp := fun vs H Q E => ∃ (a : α) (F : Hp) (x dx : Addr) (us : List V), vs = .ref x :: us ∧ Ex F H ∧ H x = some (.ins C dx []) ∧ F x = none ∧ AllP F us (args a) ∧ dom a ∧
  (match out a with
    | .ok d => ∀ F' H' u, Gr F H F' H' → Dp K F' u d → F' x = none → Q .non (upd H' x (.ins C dx [(f, u)]))
    | .error e => ∀ d u F' H', Gr F H F' H' → H d = none → H' d = some (.xd [(e.c.fld, u)]) → Dp K F' u e.val → E (.ref (M e.c)) (some d) H')
def mkOut (K : PySem.W.Frag) (C : Addr) (f : Str) : Except Er PyData → Out
  | .ok d => .ok (ob1 K C f d)
  | .error e => .er e
theorem je_make {α : Type} {args : α → List PV} {dom : α → Prop} {out : α → Except Er PyData} {C : Addr} {f : Str} (a : α) (h : JA K M W tr ps (args a)) (hd : dom a) : JE K M W (tMakeS C (spMake K M C f args dom out) (WE W) tr) ps (mkOut K C f (out a)) := fun σ F H Q fh S k =>
  h σ F H _ fh S fun vs F1 H1 e1 al x dx hx hdx ne => by
    have exn : Ex H1 (upd (upd H1 dx (.own x)) x (.ins C dx [])) := fun b o q => by
      rw [upd_ne (ne_of_none q hx), upd_ne (ne_of_none q hdx)]
      exact q
    have g0 : Gr F1 H1 F1 (upd (upd H1 dx (.own x)) x (.ins C dx [])) := Gr.heap e1.fh exn
    have fx : F1 x = none := fresh_back e1.fh hx
    refine ⟨a, F1, x, dx, vs, by rw [List.append_nil], g0.fh, upd_same, fx, al, hd, ?_⟩
    cases ho : out a with
    | ok d =>
      rw [ho] at k
      refine fun F' H' u g dd fx' => ⟨rfl, ?_⟩
      have hx' : H' x = some (.ins C dx []) := g.hh _ _ upd_same
      have G1 : Gr F1 H1 F' (upd H' x (.ins C dx [(f, u)])) := ⟨g.ff, (g0.hh.trans g.hh).mut hx, g.fh.mut fx', (g0.trans g).nw⟩
      have G2 := gr_in G1 hx fx' (upd_same (H := H') (a := x) (o := .ins C dx [(f, u)]))
      exact k (.ref x) _ _ (e1.trans G2) ⟨x, dx, u, rfl, upd_same, dp_mono (Ex.new fx') dd⟩
    | error e =>
      rw [ho] at k
      exact fun d u F' H' g hn hd2 dp => k d u F' H' ((e1.trans g0).trans g) (fresh_back (e1.trans g0).hh hn) hd2 dp
/-! ### isinstance -/
def rIs1 (K : PySem.W.Frag) : List V → Hp → VK → Prop := rIsi K
/-- of data (not an object): its type's name -/
def tyName : PyData → String
  | .none => "NoneType"
  | .bool _ => "bool"
  | .int _ => "int"
  | .str _ => "str"
  | .list _ => "list"
  | .tuple _ => "tuple"
  | .dict _ => "dict"
theorem je_isTyI {i : Int} {T : String} {b : Bool} (h : JD K M W te ps (.int i)) (hT : kitB "int" T = some b) : JD K M W (tCB (rIsi K) (tCons te (tCons (tC (.ty T)) tNil))) ps (.bool b) := je_cb (ja_cons h (ja_cons je_x ja_nil)) fun vs F H fh a Q k => by
  obtain ⟨v, u, rfl, p, q⟩ := allP2 a
  rw [dp_int p, show u = V.ty T from q]
  exact ⟨.int i, .ty T, .type "int", .type T, b, rfl, .ty T, .base (.int i), kit_ty hT, k _ F H (Gr.refl fh) (.bl b)⟩
/-- of an instance of an own class -/
theorem je_isOb {C D : Addr} {f : Str} {d : PyData} {b : Bool} (h : JV K M W te ps (ob1 K C f d)) (cl : Cls K C) (ha : PySem.W.findIn K (.ref C) "__class__" = some (some (.builtin "object.__class__")))
    (hn : PySem.W.specialIn K (.builtin "object.__class__") "__get__" = some (some (.builtin "getset_descriptor.__get__"))) (htk : PySem.W.takesIn K (.builtin "object.__class__") = some true) (hm : PySem.W.mroIn K C (.type "object") = some true)
    (hk : PySem.W.kitOne K (.ref C) (.ref D) = some b) : JD K M W (tCB (rIsi K) (tCons te (tCons (tC (.ref D)) tNil))) ps (.bool b) := je_cb (ja_cons h (ja_cons je_x ja_nil)) fun vs F H fh a Q k => by
  obtain ⟨v, u, rfl, p, q⟩ := allP2 a
  rw [show u = V.ref D from q]
  obtain ⟨o, dx, w, rfl, ho, _⟩ := p
  exact ⟨.ref o, .ref D, .ref C, .ref D, b, rfl, .own D, .base (.ins (fh _ _ ho) cl ha hn htk hm), hk, k _ F H (Gr.refl fh) (.bl b)⟩
/-! ### an exception that a suite holds -/
def exv (K : PySem.W.Frag) (a dd : Addr) (f : Str) (d : PyData) : PV := ⟨fun H v => v = .ref a ∧ ∃ u, H dd = some (.xd [(f, u)]) ∧ Dp K H u d, fun e h => by
  obtain ⟨h1, u, h2, h3⟩ := h
  exact ⟨h1, u, e _ _ h2, dp_mono e h3⟩⟩
theorem je_xf {a dd C : Addr} {f : Str} {d : PyData} (h : JV K M W te ps (exv K a dd f d)) : JD K M W (tXf a (.ref C) (some dd) C f te) ps d := fun σ F H Q fh S k => h.go fh S fun v F1 H1 e p => by
  obtain ⟨rfl, u, h2, h3⟩ := p
  exact ⟨rfl, rfl, dd, [(f, u)], u, rfl, e.fh _ _ h2, by simp [List.lookup], k u F1 H1 e h3⟩
theorem je_isEx {a dd C : Addr} {f : Str} {d : PyData} {c : V} {cv : Value} {b : Bool} (h : JV K M W te ps (exv K a dd f d)) (T : ExK K C) (hc : ClsV c cv) (hk : PySem.W.kitOne K (.ref C) cv = some b) : JD K M W (tCB (rIsEx K a (.ref C) (some dd)) (tCons te (tCons (tC c) tNil))) ps (.bool b) := je_cb (ja_cons h (ja_cons je_x ja_nil)) fun vs F H fh al Q k => by
  obtain ⟨v, u, rfl, p, q⟩ := allP2 al
  obtain ⟨rfl, w, h2, h3⟩ := p
  rw [show u = c from q]
  exact ⟨C, c, cv, b, dd, _, rfl, T, rfl, rfl, fh _ _ h2, hc, hk, k _ F H (Gr.refl fh) (.bl b)⟩
theorem je_isExT2 {a dd C C1 C2 : Addr} {f : Str} {d : PyData} {b : Bool} (h : JV K M W te ps (exv K a dd f d)) (T : ExK K C) (hk : PySem.W.kitAny K (.ref C) [.ref C1, .ref C2] = some b) :
    JD K M W (tCB (rIsExT K a (.ref C) (some dd)) (tCons te (tCons (tTup (tCons (tC (.ref C1)) (tCons (tC (.ref C2)) tNil))) tNil))) ps (.bool b) := fun σ F H Q fh S k => h.go fh S fun v F1 H1 e p => by
  obtain ⟨rfl, w, h2, h3⟩ := p
  refine ⟨by show 2 ≤ sizeLine; decide, fun tp htp => ?_⟩
  refine ⟨C, tp, [.ref C1, .ref C2], [.ref C1, .ref C2], b, dd, [(f, w)], rfl, T, rfl, rfl, ?_, upd_same, .cons (.own C1) (.cons (.own C2) .nil), hk, k _ _ _ (e.trans (Gr.new e.fh htp)) (.bl b)⟩
  rw [upd_ne (ne_of_none (e.fh _ _ h2) htp)]
  exact e.fh _ _ h2
/-! ### try -/
theorem js_try_ok {tb : WX → TS} {Wo : WX} {l : List (Value × Nat × (Addr → Value → Option Addr → TS))} (hb : ∀ W', JS K M W' (tb W') ps r) (hr : ∀ e, r ≠ .er e) : JS K M W (fun D σ H => tb (wClauses K Wo D l) D σ H) ps r := fun D σ F H fh S k => hb _ D σ F H fh S (by
  cases r with
  | er e => exact absurd rfl (hr e)
  | nx qs => exact k
  | rt P => exact k
  | bk qs => exact k
  | ct qs => exact k)
/-- the suite of the clause that catches: slot i holds the error, no other slot is known -/
def Suite (K : PySem.W.Frag) (M : EC → Addr) (W : WX) (n i : Nat) (ts : Addr → Value → Option Addr → TS) (e : Er) (P : PV) : Prop :=
  ∀ a dd, JS K M W (ts a (.ref (M e.c)) (some dd)) ((List.replicate n none).set i (some (exv K a dd e.c.fld e.val))) (.rt P)
/-- which clause catches the error: the ones ahead of it do not -/
def Catch (K : PySem.W.Frag) (M : EC → Addr) (W : WX) (n : Nat) (e : Er) (P : PV) : List (Value × Nat × (Addr → Value → Option Addr → TS)) → Prop
  | [] => False
  | (c, i, ts) :: l => (PySem.W.exmOne K (.ref (M e.c)) c = some true ∧ Suite K M W n i ts e P) ∨ (PySem.W.exmOne K (.ref (M e.c)) c = some false ∧ Catch K M W n e P l)
theorem sl_bare {F : Hp} : ∀ σ : L2.St, Sl F σ (List.replicate σ.length none) := fun σ => ⟨by simp, fun i P h => by
  have := List.eq_of_mem_replicate (List.mem_of_getElem? h)
  cases this⟩
theorem catch_ok {Wo : WX} {D : Ends} {e : Er} {P : PV} {n : Nat} : ∀ {l : List (Value × Nat × (Addr → Value → Option Addr → TS))}, Catch K M W n e P l → ∀ {F H F1 H1 : Hp} {σ' : L2.St} {d : Addr} {u : V}, Wsh K M W n D F H (.rt P) → Gr F H F1 H1 → H d = none → H1 d = some (.xd [(e.c.fld, u)]) → Dp K F1 u e.val → σ'.length = n →
    wClauses K Wo D l (.ref (M e.c)) (some d) σ' H1
  | [], h, _, _, _, _, _, _, _, _, _, _, _, _, _ => h.elim
  | (c, i, ts) :: l, h, F, H, F1, H1, σ', d, u, k, g, hn, hd, dp, hl => by
    rcases h with ⟨hx, hs⟩ | ⟨hx, hc⟩
    · refine ⟨true, hx, fun _ a ha => ?_, fun z => Bool.noConfusion z⟩
      have fo : ∀ o, F1 d = some o → o = .xd [(e.c.fld, u)] := fun o ho => by
        have := g.fh _ _ ho
        rw [hd] at this
        exact (Option.some.inj this).symm
      -- the error's dict is told from here on
      have F2 : Ex F1 (upd F1 d (.xd [(e.c.fld, u)])) := fun b o q => by
        by_cases z : b = d
        · subst z
          rw [upd_same, fo o q]
        · rw [upd_ne z]
          exact q
      have fh2 : Ex (upd F1 d (.xd [(e.c.fld, u)])) H1 := fun b o q => by
        by_cases z : b = d
        · subst z
          rw [upd_same] at q
          cases q
          exact hd
        · rw [upd_ne z] at q
          exact g.fh b o q
      have S0 : Sl (upd F1 d (.xd [(e.c.fld, u)])) (σ'.set i (some (.ref a))) ((List.replicate n none).set i (some (exv K a d e.c.fld e.val))) := by
        have := (sl_bare (F := upd F1 d (.xd [(e.c.fld, u)])) σ').set (P := exv K a d e.c.fld e.val) (v := .ref a) i ⟨rfl, u, upd_same, dp_mono F2 dp⟩
        rw [hl] at this
        exact this
      refine hs a d _ (σ'.set i (some (.ref a))) (upd F1 d (.xd [(e.c.fld, u)])) H1 fh2 S0 fun v F3 H3 g3 p => ?_
      exact k v F3 H3 ⟨g.ff.trans (F2.trans g3.ff), g.hh.trans g3.hh, g3.fh, fun b hb hf => g3.nw b (fun z => by
        have := fresh_back g.hh z
        exact hb this) (by
          by_cases z : b = d
          · subst z
            exact absurd hn hb
          · rw [upd_ne z]
            exact g.nw b hb hf)⟩ p
    · exact ⟨false, hx, fun z => Bool.noConfusion z, fun _ => catch_ok hc k g hn hd dp hl⟩
/-- a def's end -/
def Fin (K : PySem.W.Frag) : Res → Out → Prop
  | .rt P, .ok R => P = R
  | .nx _, .ok R => R = dv K .none
  | .er e, .er e' => e = e'
  | _, _ => False
theorem fin_ok {N : List Str} {Ps : List PV} {vs : List V} {F H : Hp} {Q : VK} {E : XK} {o : Out} (h : JS K M (fun cls d _ H => E cls d H) ts (entry N Ps) r) (hf : Fin K r o) (fh : Ex F H) (al : AllP F vs Ps) (th : Then K M F H Q E o) : ts { nx := fun _ H' => Q .non H', rt := Q } (start N vs) H := by
  refine h _ _ F H fh (Sl.start al) ?_
  cases r with
  | rt P =>
    cases o with
    | ok R =>
      cases (show P = R from hf)
      exact fun v F' H' g p => th v F' H' g p
    | er e => exact hf.elim
  | nx qs =>
    cases o with
    | ok R =>
      cases (show R = dv K .none from hf)
      exact fun σ' F' H' g _ => th .non F' H' g .non
    | er e => exact hf.elim
  | er e =>
    cases o with
    | ok R => exact hf.elim
    | er e2 =>
      cases (show e = e2 from hf)
      exact fun d u σ' F' H' g n hd dp _ => th d u F' H' g n hd dp
  | bk qs =>
    cases o <;> exact hf.elim
  | ct qs =>
    cases o <;> exact hf.elim
theorem js_try_er {tb : WX → TS} {Wo : WX} {l : List (Value × Nat × (Addr → Value → Option Addr → TS))} {e : Er} {P : PV} (hb : ∀ W', JS K M W' (tb W') ps (.er e)) (hc : Catch K M W ps.length e P l) : JS K M W (fun D σ H => tb (wClauses K Wo D l) D σ H) ps (.rt P) := fun D σ F H fh S k =>
  hb _ D σ F H fh S fun d u σ' F' H' g hn hd dp hl => catch_ok hc k g hn hd dp hl
end
end EB

/-! EB6: loops that search, truth of a sequence, membership, slices, more sources. -/
namespace EB
open PySem PySem.Spec PyProof.Rows L2 Evl
/-- a turn that leaves the loop: returns, or raises -/
def Out.lv : Out → Res
  | .ok P => .rt P
  | .er e => .er e
def ends (ps : Kn) : Option Out → Res
  | none => .nx ps
  | some o => o.lv
section
variable {K : PySem.W.Frag} {M : EC → Addr} {W : WX} {ps qs : Kn} {te ta tb : TE} {tr : TA} {t : TT} {ts tu : TS} {r : Res} {vs : List Nat}
theorem lv_or (o : Out) : (∃ P, o.lv = .rt P) ∨ ∃ e, o.lv = .er e := by
  cases o with
  | ok P => exact .inl ⟨P, rfl⟩
  | er e => exact .inr ⟨e, rfl⟩
theorem range_first {β : Type} {c : Nat → Option β} {n : Nat} {o : β} (h : (List.range n).findSome? c = some o) : ∃ m, m < n ∧ c m = some o ∧ ∀ i, i < m → c i = none := by
  induction n with
  | zero => simp at h
  | succ n ih =>
    rw [List.range_succ, List.findSome?_append] at h
    cases q : (List.range n).findSome? c with
    | some o2 =>
      rw [q] at h
      have e : o2 = o := by simpa using h
      subst e
      obtain ⟨m, h1, h2, h3⟩ := ih q
      exact ⟨m, by omega, h2, h3⟩
    | none =>
      rw [q] at h
      have e : c n = some o := by simpa using h
      refine ⟨n, by omega, e, fun i hi => ?_⟩
      have := List.findSome?_eq_none_iff.mp q i (List.mem_range.mpr hi)
      exact this
/-- a loop that is left at the first turn i where c i tells how -/
theorem js_search {wi : TI} {g : TG} {ds : List PyData} {tb : TS} (c : Nat → Option Out) (hi : JI K M W wi ps ds)
    (hs : ∀ i d, ds[i]? = some d → ∃ qs, JG vs g ps (dv K d) qs ∧ (JS K M W tb qs (ends ps (c i)) ∨ (c i = none ∧ JS K M W tb qs (.ct ps)))) : JS K M W (tFor wi g tb) ps (ends ps ((List.range ds.length).findSome? c)) := by
  cases q : (List.range ds.length).findSome? c with
  | none =>
    have hn : ∀ i, i < ds.length → c i = none := fun i h => List.findSome?_eq_none_iff.mp q i (List.mem_range.mpr h)
    refine js_for (vs := vs) (fun _ => ps) ds.length hi rfl (Nat.le_refl _) (fun i d h hd => ?_) (.inl ⟨rfl, rfl⟩) (fun _ => rfl)
    obtain ⟨qs, hg, hb⟩ := hs i d hd
    refine ⟨qs, hg, ?_⟩
    rw [hn i h] at hb
    rcases hb with hb | ⟨_, hb⟩
    · exact .inl hb
    · exact .inr hb
  | some o =>
    obtain ⟨m, hm, hc, hn⟩ := range_first q
    refine js_for (vs := vs) (fun _ => ps) m hi rfl (Nat.le_of_lt hm) (fun i d h hd => ?_) (.inr ?_) (fun _ => rfl)
    · obtain ⟨qs, hg, hb⟩ := hs i d hd
      refine ⟨qs, hg, ?_⟩
      rw [hn i h] at hb
      rcases hb with hb | ⟨_, hb⟩
      · exact .inl hb
      · exact .inr hb
    · obtain ⟨qs, hg, hb⟩ := hs m _ (List.getElem?_eq_getElem hm)
      rw [hc] at hb
      rcases hb with hb | ⟨z, _⟩
      · exact ⟨_, qs, List.getElem?_eq_getElem hm, hg, hb, lv_or o⟩
      · cases z
/-- the truth of a sequence -/
theorem jt_truT {ds : List PyData} (h : JD K M W te ps (.tuple ds)) : JT K M W (fun σ H Q => te σ H fun x H' => ∃ k, TruV K x H' k ∧ Q k H') ps (!ds.isEmpty) := fun σ F H Q fh S k => h.go fh S fun v F1 H1 e p => by
  obtain ⟨a, xs, rfl, hs, hd⟩ := dp_tup p
  refine ⟨!ds.isEmpty, .inr (.inl ⟨xs, ex_t e.fh hs, ?_⟩), k F1 H1 e⟩
  cases hd <;> rfl
theorem jt_truL {ds : List PyData} (h : JD K M W te ps (.list ds)) : JT K M W (fun σ H Q => te σ H fun x H' => ∃ k, TruV K x H' k ∧ Q k H') ps (!ds.isEmpty) := fun σ F H Q fh S k => h.go fh S fun v F1 H1 e p => by
  obtain ⟨a, xs, rfl, hs, hd⟩ := dp_lst p
  refine ⟨!ds.isEmpty, .inl ⟨xs, ex_l e.fh hs, ?_⟩, k F1 H1 e⟩
  cases hd <;> rfl
/-- x in ns -/
theorem inV_ints (i : Int) : ∀ ns : List Int, inV (.int i) (ns.map V.int) = ns.contains i
  | [] => rfl
  | n :: r => by
    unfold inV
    rw [List.map_cons, List.any_cons, List.contains_cons]
    have := inV_ints i r
    unfold inV at this
    rw [this]
    congr 1
    show eqV (.int n) (.int i) = (i == n)
    unfold eqV
    exact BEq.comm
theorem flat_ints : ∀ ns : List Int, (ns.map V.int).all flatV = true
  | [] => rfl
  | n :: r => by
    rw [List.map_cons, List.all_cons, flat_ints r]
    rfl
theorem je_inT {i : Int} {ns : List Int} (ha : JD K M W ta ps (.int i)) (hb : JD K M W tb ps (.tuple (ns.map .int))) : JD K M W (tOp (rIn K false) ta tb) ps (.bool (ns.contains i)) := je_op ha hb fun x y F H fh p q Q k => by
  obtain ⟨a, xs, rfl, hs, hd⟩ := dp_tup q
  have e := dpAll_ints_eq hd
  subst e
  rw [dp_int p]
  refine ⟨a, _, rfl, .inr (ex_t fh hs), rfl, flat_ints ns, ?_⟩
  rw [inV_ints]
  exact k _ F H (Gr.refl fh) (.bl _)
theorem je_inL {i : Int} {ns : List Int} (ha : JD K M W ta ps (.int i)) (hb : JD K M W tb ps (.list (ns.map .int))) : JD K M W (tOp (rIn K false) ta tb) ps (.bool (ns.contains i)) := je_op ha hb fun x y F H fh p q Q k => by
  obtain ⟨a, xs, rfl, hs, hd⟩ := dp_lst q
  have e := dpAll_ints_eq hd
  subst e
  rw [dp_int p]
  refine ⟨a, _, rfl, .inl (ex_l fh hs), rfl, flat_ints ns, ?_⟩
  rw [inV_ints]
  exact k _ F H (Gr.refl fh) (.bl _)
/-- t[:k], not the whole; xs[:k] -/
def JO (K : PySem.W.Frag) (M : EC → Addr) (W : WX) (to : TO) (ps : Kn) (o : Option Int) : Prop := ∀ σ F H (Q : Option Int → Hp → Prop), Ex F H → Sl F σ ps → (∀ F' H', Gr F H F' H' → Q o H') → to σ H Q
theorem jo_none : JO K M W tNoPart ps none := fun σ F H Q fh S k => k F H (Gr.refl fh)
theorem jo_some {i : Int} (h : JD K M W te ps (.int i)) : JO K M W (tPart te) ps (some i) := fun σ F H Q fh S k => h.go fh S fun v F1 H1 e p => ⟨i, dp_int p, k F1 H1 e⟩
def cutD (ds : List PyData) (lo hi : Option Int) : List PyData := (ds.drop (HT.sIx ds.length 0 lo)).take (HT.sIx ds.length ds.length hi - HT.sIx ds.length 0 lo)
theorem cut_all {F : Hp} {xs : List V} {ds : List PyData} (h : DpAll K F xs ds) (lo hi : Option Int) : DpAll K F (cutV xs lo hi) (cutD ds lo hi) := by
  unfold cutV cutD
  rw [dpLength h]
  exact dpTake _ (dpDrop _ h)
theorem je_slT {ds : List PyData} {tl th : TO} {lo hi : Option Int} (h : JD K M W te ps (.tuple ds)) (h1 : JO K M W tl ps lo) (h2 : JO K M W th ps hi) (hw : ¬ (HT.sIx ds.length 0 lo = 0 ∧ HT.sIx ds.length ds.length hi = ds.length)) : JD K M W (tSl (rSlT K) te tl th) ps (.tuple (cutD ds lo hi)) := fun σ F H Q fh S k =>
  h.go fh S fun v F1 H1 e p => h1 σ F1 H1 _ e.fh (S.mono e.ff) fun F2 H2 e2 => h2 σ F2 H2 _ e2.fh ((S.mono e.ff).mono e2.ff) fun F3 H3 e3 => by
    obtain ⟨a, xs, rfl, hs, hd⟩ := dp_tup (dp_mono (e2.ff.trans e3.ff) p)
    refine ⟨a, xs, rfl, ex_t e3.fh hs, by rw [dpLength hd]; exact hw, fun p hp => k _ _ _ (((e.trans e2).trans e3).trans (Gr.new e3.fh hp)) (.tup (st_of upd_same) (dpAll_mono (Gr.new (o := .tup (cutV xs lo hi)) e3.fh hp).ff (cut_all hd lo hi)))⟩
theorem je_slL {ds : List PyData} {tl th : TO} {lo hi : Option Int} (h : JD K M W te ps (.list ds)) (h1 : JO K M W tl ps lo) (h2 : JO K M W th ps hi) : JD K M W (tSl (rSlL K) te tl th) ps (.list (cutD ds lo hi)) := fun σ F H Q fh S k =>
  h.go fh S fun v F1 H1 e p => h1 σ F1 H1 _ e.fh (S.mono e.ff) fun F2 H2 e2 => h2 σ F2 H2 _ e2.fh ((S.mono e.ff).mono e2.ff) fun F3 H3 e3 => by
    obtain ⟨a, xs, rfl, hs, hd⟩ := dp_lst (dp_mono (e2.ff.trans e3.ff) p)
    exact ⟨a, xs, rfl, ex_l e3.fh hs, fun p hp => k _ _ _ (((e.trans e2).trans e3).trans (Gr.new e3.fh hp)) (.lst (sq_of upd_same) (dpAll_mono (Gr.new (o := .lst (cutV xs lo hi)) e3.fh hp).ff (cut_all hd lo hi)))⟩
theorem cutD_map {α : Type} (f : α → PyData) (xs : List α) (j : Nat) : cutD (xs.map f) none (some (j : Int)) = (xs.take j).map f := by
  unfold cutD
  rw [HT.sIx_none, HT.sIx_nat, List.drop_zero, Nat.sub_zero, List.length_map, ← List.map_take]
  congr 1
  by_cases h : j ≤ xs.length
  · rw [Nat.min_eq_left h]
  · rw [Nat.min_eq_right (by omega), List.take_length, List.take_of_length_le (by omega)]
/-- t + u -/
theorem je_catT {ds es : List PyData} (ha : JD K M W ta ps (.tuple ds)) (hb : JD K M W tb ps (.tuple es)) (h1 : ds ≠ []) (h2 : es ≠ []) (hl : ds.length + es.length ≤ 100000) : JD K M W (tOp (rCatT K) ta tb) ps (.tuple (ds ++ es)) := je_op ha hb fun x y F H fh p q Q k => by
  obtain ⟨a, xs, rfl, hs, hd⟩ := dp_tup p
  obtain ⟨b, ys, rfl, hs2, hd2⟩ := dp_tup q
  have n1 : xs ≠ [] := fun z => by subst z; cases hd; exact h1 rfl
  have n2 : ys ≠ [] := fun z => by subst z; cases hd2; exact h2 rfl
  refine ⟨a, b, xs, ys, rfl, rfl, ex_t fh hs, ex_t fh hs2, n1, sz_of (by rw [dpLength hd, dpLength hd2]; exact hl), fun z => absurd z n2, fun _ p hp => k _ _ _ (Gr.new fh hp) (.tup (st_of upd_same) (dpApp (dpAll_mono (Gr.new (o := .tup (xs ++ ys)) fh hp).ff hd) (dpAll_mono (Gr.new (o := .tup (xs ++ ys)) fh hp).ff hd2)))⟩
/-- tuple(range(a, b)) -/
theorem rg_all {F : Hp} (a b : Int) : DpAll K F (rgV a b) ((rg a (b - a).toNat).map PyData.int) := by
  have e : rgV a b = (rg a (b - a).toNat).map V.int := by
    unfold rgV rg
    rw [List.map_map]
    rfl
  rw [e]
  exact dpAll_ints _
theorem je_tupRg2 {a b : Int} (ha : JD K M W ta ps (.int a)) (hb : JD K M W tb ps (.int b)) (ok : RgOk a b) : JD K M W (tTupRg (tRg2 ta tb)) ps (.tuple ((rg a (b - a).toNat).map .int)) := fun σ F H Q fh S k =>
  ha.go fh S fun x F1 H1 e1 p => hb.go e1.fh (S.mono e1.ff) fun y F2 H2 e2 q => ⟨a, b, dp_int p, dp_int q, ok, fun l hl => k _ _ _ ((e1.trans e2).trans (Gr.new e2.fh hl)) (.tup (st_of upd_same) (rg_all a b))⟩
end
end EB

/-! EB7: the end of a law's row where the top's loose numbers are told too. -/
namespace EB
open PySem PySem.Spec PyProof.Rows L2 Evl
theorem walk_ofX {l : PySem.W.OpenLaw} {n k : Nat} {q : Program} {loose : List Str} {XP : (Str → Option Value) → Heap → Prop} {YP : World → Heap → Prop} {d : DefRec} {K : Params → PySem.W.Frag} {CX : CXT} {sp : PySem.W.Frag → Sp} {x : Str}
    (hn : l.most = some n) (hn2 : n ≤ sizeLine) (hdf : d.params.defaults = []) (hr : Room k callerA)
    (hY : ∀ (w : World) (h : Heap), YP w h → (K w.params).In h)
    (F : ∀ (w : World) (mg : Str → Option Value) (fa : Addr) (h : Heap), (K w.params).In h → h.Ns mainGlobals mg → XP mg h → mg d.name = some (.ref fa) →
      ∃ fd : FuncData, (∀ (s : Shared) (u : Value), BindsTo s fd ⟨[u], []⟩ [(x, u)]) ∧
        ∀ base : Heap, (K w.params).In base → base.Ns mainGlobals mg → FnOk l.prog w (K w.params) mg base CX k fa fd [x] (sp (K w.params)))
    (hsp : ∀ (K : PySem.W.Frag) (H : Hp) (a : Addr) (ns : List Int), ns.length ≤ n → Only H → SqL K H a (ns.map V.int) → sp K [.ref a] H (fun v _ => v = .bl true) fun _ _ _ => False)
    (hCX : ∀ (H : Hp) (s : Shared) (e : Value) (t : Shared), CX [] H s (fun _ _ _ => False) e t → False) :
    PySem.W.WalkO q loose XP YP l.row.toRowW d [] (fun f vs => PySem.call f vs) := by
  refine Att.attach_call hn hdf fun w t0 t1 mg mb fa o pm cd doc a vs ns G Y ho hd hcd hmg hobj hints hlen hg => ?_
  have KX := hY w _ Y
  obtain ⟨fd, hb, hF⟩ := F w mg fa _ KX G.T.g G.X hmg
  exact law_call KX G.T.g G.T.b G.T.builtins G.T.nolimit hg hobj hints (Nat.le_trans hlen hn2) hr hF hb (fun H hO hS => hsp (K w.params) H a ns hlen hO hS) fun H e t => hCX H t1 e t
theorem loose_int {p : Program} {lv : List (Str × PySem.W.WData)} {mg : Str → Option Value} {h : Heap} {x : Str} {i : Int} (L : PySem.W.XL p lv mg h) (m : (x, PySem.W.WData.int i) ∈ lv) : ∃ t, mg x = some (.int i t) := by
  obtain ⟨v, e, r⟩ := L.2.val _ m
  cases r
  exact ⟨_, e⟩
section
variable {K : PySem.W.Frag} {A C : Addr} {b : Bool}
theorem kit_refl : PySem.W.kitOne K (.ref C) (.ref C) = some true := if_pos (beq_self_eq_true _)
theorem cls_ask (ic : PySem.W.isClsIn K C = true) (ty : PySem.W.typeIn K (.ref C) = some (.type "type")) : ((PySem.W.clsIn K C).isSome && PySem.W.typeIn K (.ref C) == some (.type "type")) = true := by
  have i2 : (PySem.W.clsIn K C).isSome = true := ic
  rw [i2, ty] <;> rfl
theorem kit_sub (ic : PySem.W.isClsIn K C = true) (ty : PySem.W.typeIn K (.ref C) = some (.type "type")) (su : PySem.W.subIn K (.ref A) (.ref C) = some b) (hb : A = C → b = true) : PySem.W.kitOne K (.ref A) (.ref C) = some b := by
  by_cases z : A = C
  · rw [hb z, z]
    exact kit_refl
  · unfold PySem.W.kitOne
    have ne : (Value.ref A == Value.ref C) = false := by
      refine Bool.eq_false_iff.mpr fun q => z ?_
      exact Value.ref.inj (beq_iff_eq.mp q)
    rw [ne, if_neg Bool.false_ne_true]
    show (if ((PySem.W.clsIn K C).isSome && PySem.W.typeIn K (.ref C) == some (.type "type")) = true then PySem.W.subIn K (.ref A) (.ref C) else none) = some b
    rw [if_pos (cls_ask ic ty)]
    exact su
theorem kit_off (ic : PySem.W.isClsIn K C = true) (ty : PySem.W.typeIn K (.ref C) = some (.type "type")) (sa : PySem.W.subIn K (.ref A) (.ref A) = some true) (su : PySem.W.subIn K (.ref A) (.ref C) = some false) : PySem.W.kitOne K (.ref A) (.ref C) = some false := kit_sub ic ty su fun z => by
  rw [← z, sa] at su
  cases su
theorem kit_val (su : PySem.W.subIn K (.ref A) (.type "ValueError") = some true) : PySem.W.kitOne K (.ref A) (.type "ValueError") = some true := by
  unfold PySem.W.kitOne
  have ne : (Value.ref A == Value.type "ValueError") = false := Bool.eq_false_iff.mpr fun q => by
    have := beq_iff_eq.mp q
    cases this
  rw [ne, if_neg Bool.false_ne_true]
  show (if PySem.W.kitMeta "ValueError" = true then PySem.W.subIn K (.ref A) (.type "ValueError") else none) = some true
  rw [if_pos (by decide +kernel)]
  exact su
theorem kit_any2 {C1 C2 : Addr} (h1 : PySem.W.kitOne K (.ref A) (.ref C1) = some false) (h2 : PySem.W.kitOne K (.ref A) (.ref C2) = some false) : PySem.W.kitAny K (.ref A) [.ref C1, .ref C2] = some false := kitAny_cons h1 (fun _ => kitAny_cons h2 (fun _ => kitAny_nil) fun z => nomatch z) fun z => nomatch z
theorem exm_sub (sb : PySem.W.subIn K (.ref C) (.type "BaseException") = some true) (ic : PySem.W.isClsIn K C = true) (ty : PySem.W.typeIn K (.ref C) = some (.type "type")) (su : PySem.W.subIn K (.ref A) (.ref C) = some b) : PySem.W.exmOne K (.ref A) (.ref C) = some b := by
  have e1 : (PySem.W.subIn K (.ref C) (.type "BaseException") == some true) = true := by rw [sb] <;> rfl
  show (if (PySem.W.subIn K (.ref C) (.type "BaseException") == some true) = true then (if ((PySem.W.clsIn K C).isSome && PySem.W.typeIn K (.ref C) == some (.type "type")) = true then PySem.W.subIn K (.ref A) (.ref C) else none) else none) = some b
  rw [if_pos e1, if_pos (cls_ask ic ty)]
  exact su
end
end EB

/-! EB8: data that may be compared. -/
namespace EB
open PySem PySem.Spec PyProof.Rows L2 Evl
structure Ok (d : PyData) (n : Nat) : Prop where
  c : PyData.canLay0 d = true
  d : PyData.depth d ≤ n
theorem ok_all {n : Nat} : ∀ {ds : List PyData}, (∀ d ∈ ds, Ok d n) → PyData.canLayAll0 ds = true ∧ PyData.depthAll ds ≤ n
  | [], _ => by simp [PyData.canLayAll0, PyData.depthAll]
  | d :: r, h => by
    have h1 := h d (List.mem_cons_self)
    have h2 := ok_all (n := n) (ds := r) fun e he => h e (List.mem_cons_of_mem _ he)
    simp only [PyData.canLayAll0, PyData.depthAll, Bool.and_eq_true]
    exact ⟨⟨h1.c, h2.1⟩, Nat.max_le.mpr ⟨h1.d, h2.2⟩⟩
theorem ok_tup {n : Nat} {ds : List PyData} (h : ∀ d ∈ ds, Ok d n) : Ok (.tuple ds) (n + 1) := by
  have h2 := ok_all h
  refine ⟨by simp only [PyData.canLay0]; exact h2.1, ?_⟩
  simp only [PyData.depth]
  omega
theorem ok_lst {n : Nat} {ds : List PyData} (h : ∀ d ∈ ds, Ok d n) : Ok (.list ds) (n + 1) := by
  have h2 := ok_all h
  refine ⟨by simp only [PyData.canLay0]; exact h2.1, ?_⟩
  simp only [PyData.depth]
  omega
theorem ok_int {n : Nat} {i : Int} : Ok (.int i) n := ⟨by simp only [PyData.canLay0], by simp only [PyData.depth]; omega⟩
theorem ok_bl {n : Nat} {b : Bool} : Ok (.bool b) n := ⟨by simp only [PyData.canLay0], by simp only [PyData.depth]; omega⟩
theorem ok_str {n : Nat} {x : Str} (h : PyData.strOk x = true) : Ok (.str x) n := ⟨by simp only [PyData.canLay0]; exact h, by simp only [PyData.depth]; omega⟩
theorem Ok.up {d : PyData} {n m : Nat} (h : Ok d n) (q : n ≤ m) : Ok d m := ⟨h.c, Nat.le_trans h.d q⟩
theorem Ok.sh {d : PyData} {n : Nat} (h : Ok d n) (hn : n ≤ 64) : SeqAt.shaped d = true := by
  unfold SeqAt.shaped
  rw [h.c, Bool.true_and]
  exact decide_eq_true (Nat.le_trans h.d hn)
theorem ok_ints {n : Nat} (xs : List Int) : ∀ d ∈ xs.map PyData.int, Ok d n := fun d hd => by
  obtain ⟨i, _, rfl⟩ := List.mem_map.mp hd
  exact ok_int
section
variable {K : PySem.W.Frag} {M : EC → Addr} {W : WX} {ps : Kn} {ta tb : TE}
/-- the same data on both sides -/
theorem je_eqR {d : PyData} {n : Nat} (ha : JD K M W ta ps d) (hb : JD K M W tb ps d) (o : Ok d n) (hn : n ≤ 64 := by decide) : JD K M W (tOp (rEqD K) ta tb) ps (.bool true) := je_is (je_eqD ha hb (o.sh hn) (o.sh hn)) (by rw [SeqAt.eqv_refl d o.c])
theorem je_neR {d : PyData} {n : Nat} (ha : JD K M W ta ps d) (hb : JD K M W tb ps d) (o : Ok d n) (hn : n ≤ 64 := by decide) : JD K M W (tOp (rNeD K) ta tb) ps (.bool false) := je_is (je_neD ha hb (o.sh hn) (o.sh hn)) (by rw [SeqAt.eqv_refl d o.c]; rfl)
end
end EB

/-! EB9: a list of one's own that is written to (appended to, items set), then handed on as data. -/
namespace EB
open PySem PySem.Spec PyProof.Rows L2 Evl
theorem dpSet {K : PySem.W.Frag} {H : Hp} : ∀ {vs : List V} {ds : List PyData} {j : Nat} {v : V} {d : PyData}, DpAll K H vs ds → Dp K H v d → DpAll K H (vs.set j v) (ds.set j d)
  | _, _, _, _, _, .nil, _ => .nil
  | _, _, 0, _, _, .cons a b, p => .cons p b
  | _, _, j + 1, _, _, .cons a b, p => .cons a (dpSet b p)
inductive LR
  | nx (qs : Kn) (ds : List PyData)
  | rt (d : PyData)
def LW (K : PySem.W.Frag) (D : Addr) (F1 H1 : Hp) (Dn : Ends) (F : Hp) : LR → Prop
  | .nx qs es => ∀ σ' F' H', Acc K D F1 H1 F' H' es → Ex F F' → Sl F' σ' qs → Dn.nx σ' H'
  | .rt d => ∀ v F' H', Gr F1 H1 F' H' → Dp K F' v d → Dn.rt v H'
theorem LW.step {K : PySem.W.Frag} {D : Addr} {F1 H1 : Hp} {Dn : Ends} {F F' : Hp} {R : LR} (e : Ex F F') (k : LW K D F1 H1 Dn F R) : LW K D F1 H1 Dn F' R := by
  cases R with
  | nx qs es => exact fun σ2 F2 H2 A2 e2 S2 => k σ2 F2 H2 A2 (e.trans e2) S2
  | rt d => exact k
def JL (K : PySem.W.Frag) (M : EC → Addr) (W : WX) (D : Addr) (F1 H1 : Hp) (ts : TS) (ps : Kn) (ds : List PyData) (R : LR) : Prop := ∀ Dn σ F H, Acc K D F1 H1 F H ds → Sl F σ ps → LW K D F1 H1 Dn F R → ts Dn σ H
section
variable {K : PySem.W.Frag} {M : EC → Addr} {W : WX} {D : Addr} {F1 H1 : Hp} {ps qs rs : Kn} {ts tu : TS} {te ti : TE} {ds es : List PyData} {R : LR} {t : TT}
theorem jl_js (h : JS K M W ts ps (.nx qs)) : JL K M W D F1 H1 ts ps ds (.nx qs ds) := fun Dn σ F H A S k => h Dn σ F H A.gr.fh S fun σ' F' H' g s => k σ' F' H' (A.step g) g.ff s
theorem jl_weak (h : JL K M W D F1 H1 ts ps ds (.nx qs es)) (w : Weak qs rs) : JL K M W D F1 H1 ts ps ds (.nx rs es) := fun Dn σ F H A S k => h Dn σ F H A S fun σ' F' H' A' e s => k σ' F' H' A' e (s.weak w)
theorem jl_is {es' : List PyData} (h : JL K M W D F1 H1 ts ps ds (.nx qs es)) (e : es = es') : JL K M W D F1 H1 ts ps ds (.nx qs es') := e ▸ h
theorem jl_seq (h1 : JL K M W D F1 H1 ts ps ds (.nx qs es)) (h2 : JL K M W D F1 H1 tu qs es R) : JL K M W D F1 H1 (tSeq ts tu) ps ds R := fun Dn σ F H A S k => h1 { Dn with nx := tu Dn } σ F H A S fun σ' F' H' A' e S' => h2 Dn σ' F' H' A' S' (LW.step e k)
theorem jl_if {b : Bool} (h : JT K M W t ps b) (h1 : b = true → JL K M W D F1 H1 ts ps ds R) (h2 : b = false → JL K M W D F1 H1 tu ps ds R) : JL K M W D F1 H1 (tIfS t ts tu) ps ds R := fun Dn σ F H A S k => h σ F H _ A.gr.fh S fun F' H' g => by
  have k' := LW.step g.ff k
  cases b with
  | true => exact h1 rfl Dn σ F' H' (A.step g) (S.mono g.ff) k'
  | false => exact h2 rfl Dn σ F' H' (A.step g) (S.mono g.ff) k'
theorem sl_at {F : Hp} {σ : L2.St} {i : Nat} {v : V} (S : Sl F σ ps) (h : ps[i]? = some (some (xv v))) : σ[i]? = some (some v) := by
  obtain ⟨u, hu, e⟩ := S.2 i _ h
  rw [hu, show u = v from e]
/-- xs.append(e) -/
theorem jl_app {i : Nat} {ta : TA} {d : PyData} (hi : ps[i]? = some (some (xv (.ref D)))) (hD : H1 D = none) (h : JA K M W ta ps [dv K d]) (hl : ds.length < 90000) : JL K M W D F1 H1 (tDrop (tBM K "list" rAppend (tVar i) ta)) ps ds (.nx ps (ds ++ [d])) := fun Dn σ F H A S k => by
  obtain ⟨acc0, h0, _⟩ := A.at_
  refine ⟨.ref D, sl_at S hi, (.inl ⟨rfl, acc0, sq_of h0⟩), h σ F H _ A.gr.fh S fun vs F2 H2 g a => ?_⟩
  obtain ⟨v, rfl, p⟩ := allP1 a
  have A2 := A.step g
  obtain ⟨acc, h2, hd⟩ := A2.at_
  exact ⟨D, acc, v, rfl, rfl, h2, sz_lt (by rw [A2.len h2]; omega), k σ F2 _ (A2.app hD h2 p) g.ff (S.mono g.ff)⟩
theorem ixN_nat {n j : Nat} (h : j < n) : ixN n (j : Int) = some j := by
  unfold ixN
  rw [if_pos (by omega), if_pos (by omega)]
  simp
theorem acc_set {F H : Hp} {acc : List V} {j : Nat} {v : V} {d : PyData} (A : Acc K D F1 H1 F H ds) (hD : H1 D = none) (h : H D = some (.lst acc)) (p : Dp K F v d) : Acc K D F1 H1 F (upd H D (.lst (acc.set j v))) (ds.set j d) := by
  obtain ⟨acc2, h2, hd⟩ := A.at_
  rw [h] at h2
  cases h2
  exact ⟨gr_mut A.gr hD A.off, A.off, _, upd_same, dpSet hd p⟩
/-- xs[k] = e -/
theorem jl_set {i j : Nat} {d : PyData} (hi : ps[i]? = some (some (xv (.ref D)))) (hD : H1 D = none) (h : JD K M W te ps d) (hk : JD K M W ti ps (.int (j : Nat))) (hj : j < ds.length) : JL K M W D F1 H1 (tAsg te (gSub (tVar i) ti rSetL)) ps ds (.nx ps (ds.set j d)) := fun Dn σ F H A S k =>
  h.go A.gr.fh S fun v F2 H2 g p => by
    refine ⟨.ref D, sl_at S hi, hk.go g.fh (S.mono g.ff) fun u F3 H3 g3 q => ?_⟩
    have A3 := (A.step g).step g3
    obtain ⟨acc, h3, hd⟩ := A3.at_
    exact ⟨D, acc, (j : Nat), j, rfl, dp_int q, h3, by rw [A3.len h3]; exact ixN_nat hj, k σ F3 _ (acc_set A3 hD h3 (dp_mono g3.ff p)) (g.ff.trans g3.ff) ((S.mono g.ff).mono g3.ff)⟩
/-- xs[k] = e where e is an int that may be read off xs itself -/
theorem jl_setI {i j : Nat} {v : Int} (hi : ps[i]? = some (some (xv (.ref D)))) (hD : H1 D = none) (h : JD K M W te (ps.set i (some (dv K (.list ds)))) (.int v)) (hk : JD K M W ti ps (.int (j : Nat))) (hj : j < ds.length) : JL K M W D F1 H1 (tAsg te (gSub (tVar i) ti rSetL)) ps ds (.nx ps (ds.set j (.int v))) := fun Dn σ F H A S k => by
  obtain ⟨acc0, h0, hd0⟩ := A.at_
  have fo : Ex F (upd F D (.lst acc0)) := Ex.new A.off
  have fh : Ex (upd F D (.lst acc0)) H := fun b o q => by
    by_cases z : b = D
    · subst z
      rw [upd_same] at q
      cases q
      exact h0
    · rw [upd_ne z] at q
      exact A.gr.fh b o q
  have S2 : Sl (upd F D (.lst acc0)) σ (ps.set i (some (dv K (.list ds)))) := by
    refine ⟨by rw [List.length_set]; exact S.1, fun b P hb => ?_⟩
    by_cases z : b = i
    · subst z
      have hl : b < ps.length := (List.getElem?_eq_some_iff.mp hi).1
      rw [List.getElem?_set_self hl] at hb
      cases hb
      exact ⟨_, sl_at S hi, .lst (sq_of upd_same) (dpAll_mono fo hd0)⟩
    · rw [List.getElem?_set_ne (fun y => z y.symm)] at hb
      exact (S.mono fo).2 b P hb
  refine h.go fh S2 fun x F2 H2 g p => ?_
  rw [dp_int p]
  have A2 : Acc K D F1 H1 F H2 ds := ⟨⟨A.gr.ff, A.gr.hh.trans g.hh, A.gr.fh.trans g.hh, A.gr.nw⟩, A.off, acc0, g.hh _ _ h0, hd0⟩
  refine ⟨.ref D, sl_at S hi, hk.go A2.gr.fh S fun u F3 H3 g3 q => ?_⟩
  have A3 := A2.step g3
  obtain ⟨acc, h3, hd⟩ := A3.at_
  exact ⟨D, acc, (j : Nat), j, rfl, dp_int q, h3, by rw [A3.len h3]; exact ixN_nat hj, k σ F3 _ (acc_set A3 hD h3 (.int v)) g3.ff (S.mono g3.ff)⟩
/-- for, the list grows or changes in every turn -/
theorem jl_for {vs : List Nat} {wi : TI} {g : TG} {tb : TS} (xs : List PyData) (f : Nat → Kn) (l : Nat → List PyData) (hi : JI K M W wi ps xs) (h0 : f 0 = ps) (hl0 : l 0 = ds)
    (hs : ∀ (j : Nat) (d : PyData), xs[j]? = some d → ∃ qs, JG vs g (f j) (dv K d) qs ∧ JL K M W D F1 H1 tb qs (l j) (.nx (f (j + 1)) (l (j + 1)))) : JL K M W D F1 H1 (tFor wi g tb) ps ds (.nx (f xs.length) (l xs.length)) := fun Dn σ F H A S k => hi σ F H _ A.gr.fh S fun J F2 H2 e1 it => by
  refine ⟨fun i n σ' H' => n = xs.length - i ∧ i ≤ xs.length ∧ ∃ F', Acc K D F1 H1 F' H' (l i) ∧ Ex F2 F' ∧ Sl F' σ' (f i), ⟨xs.length, by omega, Nat.zero_le _, F2, by rw [hl0]; exact A.step e1, Ex.refl _, by rw [h0]; exact S.mono e1.ff⟩, ?_⟩
  rintro i n σ' H' ⟨rfl, him, F3, A3, e3, S3⟩
  by_cases hlt : i < xs.length
  · refine .inr ⟨it.go i H' (e3.trans A3.gr.fh) hlt, fun σ4 H4 => ∃ F4, Acc K D F1 H1 F4 H4 (l (i + 1)) ∧ Ex F2 F4 ∧ Sl F4 σ4 (f (i + 1)), fun σ4 H4 q => ⟨xs.length - (i + 1), by omega, rfl, hlt, q⟩, fun x H4 y => ?_⟩
    obtain ⟨F4, e4, dx⟩ := it.yld i _ F3 H' x H4 e3 A3.gr.fh (List.getElem?_eq_getElem hlt) y
    obtain ⟨qs, hg, hb⟩ := hs i _ (List.getElem?_eq_getElem hlt)
    have A4 := A3.step e4
    refine hg x σ' F4 H4 _ e4.fh (S3.mono e4.ff) dx fun σ5 F5 H5 e5 S5 _ => ?_
    exact hb _ σ5 F5 H5 (A4.step e5) S5 fun σ6 F6 H6 A6 e6 S6 => ⟨F6, A6, ((e3.trans e4.ff).trans e5.ff).trans e6, S6⟩
  · have hem : i = xs.length := by omega
    subst hem
    exact .inl ⟨it.stop _ H' (e3.trans A3.gr.fh) (Nat.le_refl _), k σ' F3 H' A3 (e1.ff.trans e3) S3⟩
theorem jl_ret {i : Nat} (hi : ps[i]? = some (some (xv (.ref D)))) (hD : H1 D = none) : JL K M W D F1 H1 (tRet (tVar i)) ps ds (.rt (.list ds)) := fun Dn σ F H A S k => by
  obtain ⟨F3, g3, d3, _⟩ := A.done hD
  exact ⟨.ref D, sl_at S hi, k _ F3 H g3 d3⟩
/-- xs = [] -/
theorem jl_new {i : Nat} {d : PyData} (h : ∀ D F1 H1, H1 D = none → JL K M W D F1 H1 tu (ps.set i (some (xv (.ref D)))) [] (.rt d)) : JS K M W (tSeq (tAsg (tLst tNil) (gName i)) tu) ps (.rt (dv K d)) := fun Dn σ F H fh S k =>
  ⟨sz_of (by decide), fun D hD => h D F H hD Dn _ F _ (Acc.start fh hD) (S.set i rfl) fun v F' H' g p => k v F' H' g p⟩
/-- xs = list(e), e a list -/
theorem jl_copy {i : Nat} {d : PyData} (he : JD K M W te ps (.list ds)) (h : ∀ D F1 H1, H1 D = none → JL K M W D F1 H1 tu (ps.set i (some (xv (.ref D)))) ds (.rt d)) : JS K M W (tSeq (tAsg (tCB (rListS K) (tCons te tNil)) (gName i)) tu) ps (.rt (dv K d)) := fun Dn σ F H fh S k =>
  he.go fh S fun v F1 H1 e p => by
    obtain ⟨a, xs, rfl, hs, hd⟩ := dp_lst p
    exact ⟨a, xs, rfl, .inl (ex_l e.fh hs), fun D hD => h D F1 H1 hD Dn _ F1 _ ⟨gr_mut (Gr.refl e.fh) hD (fresh_back e.fh hD), fresh_back e.fh hD, xs, upd_same, hd⟩ ((S.mono e.ff).set i rfl) fun v F' H' g p => k v F' H' (e.trans g) p⟩
end
end EB

/-! EB10: max and min, lists that stand in the heap, == by an own __eq__, is True. -/
namespace EB
open PySem PySem.Spec PyProof.Rows L2 Evl
/-- a list that was made at run time -/
def lv (K : PySem.W.Frag) (ds : List PyData) : PV := ⟨fun H v => ∃ a xs, v = .ref a ∧ H a = some (.lst xs) ∧ DpAll K H xs ds, fun e h => by
  obtain ⟨a, xs, h1, h2, h3⟩ := h
  exact ⟨a, xs, h1, e _ _ h2, dpAll_mono e h3⟩⟩
theorem lv_dv {K : PySem.W.Frag} {ds : List PyData} : ∀ (H : Hp) (v : V), (lv K ds).p H v → (dv K (.list ds)).p H v := fun H v h => by
  obtain ⟨a, xs, rfl, h2, h3⟩ := h
  exact .lst (sq_of h2) h3
section
variable {K : PySem.W.Frag} {M : EC → Addr} {W : WX} {ps : Kn} {ta tb te : TE} {tr : TA}
theorem je_lvd {ds : List PyData} (h : JV K M W te ps (lv K ds)) : JD K M W te ps (.list ds) := je_weak h lv_dv
theorem je_lstV {ds : List PyData} (h : JA K M W tr ps (ds.map (dv K))) (hl : ds.length ≤ 100000 := by first | decide | omega | (simp; done)) : JV K M W (tLst tr) ps (lv K ds) := fun σ F H Q fh S k =>
  h σ F H _ fh S fun vs F1 H1 e1 a => ⟨sz_of (by rw [dpLength a.dv]; exact hl), fun p hp => k _ _ _ (e1.trans (Gr.new e1.fh hp)) ⟨p, vs, rfl, upd_same, dpAll_mono (Gr.new (o := .lst vs) e1.fh hp).ff a.dv⟩⟩
theorem je_catV {ds es : List PyData} (ha : JV K M W ta ps (lv K ds)) (hb : JV K M W tb ps (lv K es)) (hl : ds.length + es.length ≤ 100000) : JV K M W (tOp rCat ta tb) ps (lv K (ds ++ es)) := je_op ha hb fun x y F H fh p q Q k => by
  obtain ⟨a, xs, rfl, hx, hd⟩ := p
  obtain ⟨b, ys, rfl, hy, he⟩ := q
  exact ⟨a, b, xs, ys, rfl, rfl, fh _ _ hx, fh _ _ hy, sz_of (by rw [dpLength hd, dpLength he]; exact hl), fun p hp => k _ _ _ (Gr.new fh hp) ⟨p, _, rfl, upd_same, dpApp (dpAll_mono (Gr.new (o := .lst (xs ++ ys)) fh hp).ff hd) (dpAll_mono (Gr.new (o := .lst (xs ++ ys)) fh hp).ff he)⟩⟩
theorem je_maxI {ns : List Int} {m : Int} (h : JD K M W te ps (.list (ns.map .int))) (hm : m ∈ ns) (hx : ∀ y ∈ ns, y ≤ m) : JD K M W (tCB (rMax K) (tCons te tNil)) ps (.int m) := je_cb (ja_cons h ja_nil) fun vs F H fh b Q k => by
  obtain ⟨v, rfl, p⟩ := allP1 b
  obtain ⟨a, xs, rfl, hs, hd⟩ := dp_lst p
  have e := dpAll_ints_eq hd
  subst e
  refine ⟨a, ns, rfl, ex_l fh hs, List.length_pos_of_mem hm, fun m2 h2 h3 => ?_⟩
  rw [show m2 = m from Int.le_antisymm (hx _ h2) (h3 _ hm)]
  exact k _ F H (Gr.refl fh) (.int m)
theorem je_minI {ns : List Int} {m : Int} (h : JD K M W te ps (.list (ns.map .int))) (hm : m ∈ ns) (hx : ∀ y ∈ ns, m ≤ y) : JD K M W (tCB (rMin K) (tCons te tNil)) ps (.int m) := je_cb (ja_cons h ja_nil) fun vs F H fh b Q k => by
  obtain ⟨v, rfl, p⟩ := allP1 b
  obtain ⟨a, xs, rfl, hs, hd⟩ := dp_lst p
  have e := dpAll_ints_eq hd
  subst e
  refine ⟨a, ns, rfl, ex_l fh hs, List.length_pos_of_mem hm, fun m2 h2 h3 => ?_⟩
  rw [show m2 = m from Int.le_antisymm (h3 _ hm) (hx _ h2)]
  exact k _ F H (Gr.refl fh) (.int m)
theorem je_isB {a b : Bool} (ha : JD K M W ta ps (.bool a)) (hb : JD K M W tb ps (.bool b)) : JD K M W (tOp rIsB ta tb) ps (.bool (decide (a = b))) := je_op ha hb fun x y F H fh p q Q k => ⟨a, b, dp_bl p, dp_bl q, k _ F H (Gr.refl fh) (.bl _)⟩
/-- two objects of a class with the same data -/
def eqR (K : PySem.W.Frag) (C : Addr) (f : Str) : Addr → Addr → Hp → Prop := fun a b H => ∃ (F : Hp) (d : PyData), Ex F H ∧ (ob1 K C f d).p F (.ref a) ∧ (ob1 K C f d).p F (.ref b) ∧ Ok d 60
theorem je_eqOwn {C : Addr} {f : Str} {d : PyData} (ha : JV K M W ta ps (ob1 K C f d)) (hb : JV K M W tb ps (ob1 K C f d)) (o : Ok d 60) : JD K M W (tOp (rEqG (DIns C (eqR K C f))) ta tb) ps (.bool true) := je_op ha hb fun x y F H fh p q Q k => by
  obtain ⟨a, dx, u, rfl, h1, h2⟩ := id p
  obtain ⟨b, dy, v, rfl, h3, h4⟩ := id q
  exact ⟨⟨a, b, dx, dy, _, _, rfl, rfl, fh _ _ h1, fh _ _ h3, F, d, fh, p, q, o⟩, fun H' e => k _ F H' (Gr.heap fh e) (.bl true)⟩
/-- a list of one's own is told as data from here on -/
theorem jl_tell {D : Addr} {F1 H1 : Hp} {tu : TS} {i : Nat} {ds : List PyData} {d : PyData} (hi : ps[i]? = some (some (xv (.ref D)))) (hD : H1 D = none) (h : JS K M W tu (ps.set i (some (lv K ds))) (.rt (dv K d))) : JL K M W D F1 H1 tu ps ds (.rt d) := fun Dn σ F H A S k => by
  obtain ⟨acc, h0, hd⟩ := A.at_
  have fo : Ex F (upd F D (.lst acc)) := Ex.new A.off
  have g3 := gr_in A.gr hD A.off h0
  have S2 : Sl (upd F D (.lst acc)) σ (ps.set i (some (lv K ds))) := by
    refine ⟨by rw [List.length_set]; exact S.1, fun b P hb => ?_⟩
    by_cases z : b = i
    · subst z
      have hl : b < ps.length := (List.getElem?_eq_some_iff.mp hi).1
      rw [List.getElem?_set_self hl] at hb
      cases hb
      exact ⟨_, sl_at S hi, D, acc, rfl, upd_same, dpAll_mono fo hd⟩
    · rw [List.getElem?_set_ne (fun y => z y.symm)] at hb
      exact (S.mono fo).2 b P hb
  exact h Dn σ _ H g3.fh S2 fun v F' H' g p => k v F' H' (g3.trans g) p
/-- xs = a + b: a list of one's own from here on -/
theorem jl_cat {tu : TS} {i : Nat} {ds es : List PyData} {d : PyData} (ha : JV K M W ta ps (lv K ds)) (hb : JV K M W tb ps (lv K es)) (hl : ds.length + es.length ≤ 100000) (h : ∀ D F1 H1, H1 D = none → JL K M W D F1 H1 tu (ps.set i (some (xv (.ref D)))) (ds ++ es) (.rt d)) : JS K M W (tSeq (tAsg (tOp rCat ta tb) (gName i)) tu) ps (.rt (dv K d)) := fun Dn σ F H fh S k =>
  ha.go fh S fun v F1 H1 e p => hb.go e.fh (S.mono e.ff) fun u F2 H2 e2 q => by
    obtain ⟨a, xs, rfl, hx, hd⟩ := (lv K ds).mn e2.ff p
    obtain ⟨b, ys, rfl, hy, he⟩ := q
    exact ⟨a, b, xs, ys, rfl, rfl, e2.fh _ _ hx, e2.fh _ _ hy, sz_of (by rw [dpLength hd, dpLength he]; exact hl), fun D hD => h D F2 H2 hD Dn _ F2 _ ⟨gr_mut (Gr.refl e2.fh) hD (fresh_back e2.fh hD), fresh_back e2.fh hD, _, upd_same, dpApp hd he⟩ (((S.mono e.ff).mono e2.ff).set i rfl) fun v F' H' g p => k v F' H' ((e.trans e2).trans g) p⟩
end
end EB

/-! EB11: len by an own __len__, lists that a call has made anew (told by nobody yet), lists times n, turned lists, sums, counts, isinstance of lists. -/
namespace EB
open PySem PySem.Spec PyProof.Rows L2 Evl
section
variable {X : Cx} {CX : CXT} {n : Nat} {C f : Addr} {fd : FuncData} {ps : List Str} {sp : Sp} {E : XK}
/-- the callee runs somewhere below -/
theorem own_run {A1 : Around} {pins : List (Addr × Obj)} {σ : L2.St} {H : Hp} {s : Shared} {Q : VK} {us : List Value} {vs : List V} (sb : Sub X n A1) (F : FnOk X.prog X.w X.K X.mg X.base CX n f fd ps sp) (hb : Binds X.K fd ps []) (hx : Passes CX X E)
    (I : Inv X pins σ H s) (r : Vals vs us) (h : sp vs H Q E) : wpAny (model X.prog X.w) A1 (call (.ref f) us) (EP X pins σ Q) X.xe s := by
  have e0 : Env0 X.prog X.w X.K X.mg X.base A1 X.stack s H := by
    have e := I.env0
    exact ⟨by rw [sb.fr]; exact e.frames, e.mod, e.bs, e.bsz, e.funs, e.frf, e.hok, e.bare⟩
  have hl : us.length = ps.length := by rw [← r.length]; exact F.len _ _ _ _ h
  have b := hb s us I.kIn (by rw [List.append_nil]; exact hl)
  rw [List.append_nil] at b
  refine wpAny_call (codeAny_mono (F.run A1 X.stack s H ⟨us, []⟩ us vs Q E sb.room e0 b r h) fun r s' hq => ?_)
  cases r with
  | error e => exact hx pins σ H s e s' I hq
  | ok fl =>
    cases fl with
    | ret u => exact I.after hq
    | next => exact False.elim hq
    | brk => exact False.elim hq
    | cont => exact False.elim hq
theorem passF : Passes (L2.CX X.prog X.w) X (fun _ _ _ => False) := fun pins σ H s e s' I c => by
  obtain ⟨_, _, _, _, _, _, _, _, _, _, _, _, h⟩ := c
  exact h.elim
/-- len(o), o an instance of C with an own __len__ -/
def rLenO (C : Addr) (sp : Sp) (E : XK) : List V → Hp → VK → Prop := fun xs H Q => ∃ a dx fs, xs = [V.ref a] ∧ H a = some (.ins C dx fs) ∧ sp [.ref a] H (fun v H' => ∃ i : Int, v = .int i ∧ 0 ≤ i ∧ i < 2 ^ 63 ∧ Q (.int i) H') E
theorem call_lenOwn (F : FnOk X.prog X.w X.K X.mg X.base CX n f fd ps sp) (hr : Room (n + 1) X.A) (hs : PySem.W.findIn X.K (.ref C) "__len__" = some (some (.ref f))) (hf : PySem.W.isFn X.K (.ref f) = true) (hb : Binds X.K fd ps []) (hx : Passes CX X E) : CallR X (.builtin "len") (rLenO C sp E) := by
  intro pins s σ H xs us Q I r h
  obtain ⟨a, dx, fs, rfl, ha, hsp⟩ := h
  obtain ⟨u, rfl, rx⟩ := vals1 r
  cases rx
  obtain ⟨mA, J, _⟩ := ins_get I.hok ha
  obtain ⟨od, J, _⟩ := J.look
  obtain ⟨m, hF⟩ := I.fr
  refine PySem.W.len_K hF I.ok.mod.kin J hs hf (thn (own_run (A1 := X.A.in1) (Sub.in1 ⟨hr, rfl⟩) F hb hx I (show Vals [V.ref a] [Value.ref a] from .cons rfl .nil) hsp) fun v s' hv => ?_)
  obtain ⟨y, H', I', ry, i, rfl, h0, h1, q⟩ := hv
  obtain ⟨t, rfl⟩ := ry
  exact ⟨⟨h0, h1⟩, .int i, H', I'.tok _, ⟨_, rfl⟩, q⟩
end
section
variable {K : PySem.W.Frag} {M : EC → Addr} {W : WX} {ps qs : Kn} {te ta tb : TE} {tr : TA} {t : TT} {ts tu : TS} {r : Res} {vs : List Nat}
theorem je_lenO {α : Type} {args : α → List PV} {dom : α → Prop} {out : α → Out} {C : Addr} {f : Str} {d : PyData} {i : Int} (a : α) (h : JV K M W te ps (ob1 K C f d)) (ea : args a = [ob1 K C f d]) (hd : dom a) (ho : out a = .ok (dv K (.int i))) (h0 : 0 ≤ i) (h1 : i < 2 ^ 63) :
    JD K M W (tCB (rLenO C (Prm K M args dom out) fun _ _ _ => False) (tCons te tNil)) ps (.int i) := je_cb (ja_cons h ja_nil) fun vs F H fh b Q k => by
  obtain ⟨v, rfl, p⟩ := allP1 b
  obtain ⟨o, dx, u, rfl, h2, h3⟩ := id p
  refine ⟨o, dx, _, rfl, fh _ _ h2, a, F, fh, by rw [ea]; exact .cons p .nil, hd, ?_⟩
  rw [ho]
  intro v F' H' g p2
  exact ⟨i, dp_int p2, h0, h1, k _ F' H' g (.int i)⟩
/-! ### lists made anew -/
/-- a list that was just made: nobody else has it -/
def JN (K : PySem.W.Frag) (te : TE) (ps : Kn) (ds : List PyData) : Prop := ∀ σ F H Q, Ex F H → Sl F σ ps → (∀ D F' H', Acc K D F H F' H' ds → H D = none → Q (.ref D) H') → te σ H Q
theorem Acc.pre {D : Addr} {F0 H0 F1 H1 F H : Hp} {ds : List PyData} (g : Gr F0 H0 F1 H1) (a : Acc K D F1 H1 F H ds) : Acc K D F0 H0 F H ds := ⟨g.trans a.gr, a.off, a.at_⟩
theorem jn_told (h : JN K te ps ds) : JD K M W te ps (.list ds) := fun σ F H Q fh S k => h σ F H Q fh S fun D F' H' A hD => by
  obtain ⟨F3, g3, d3, _⟩ := A.done hD
  exact k _ F3 H' g3 d3
theorem jn_is {ds es : List PyData} (h : JN K te ps ds) (e : ds = es) : JN K te ps es := e ▸ h
def PrmN (K : PySem.W.Frag) {α : Type} (args : α → List PV) (dom : α → Prop) (out : α → List PyData) : Sp := fun vs H Q _ => ∃ a F, Ex F H ∧ AllP F vs (args a) ∧ dom a ∧ (∀ D F' H', Acc K D F H F' H' (out a) → H D = none → Q (.ref D) H')
theorem jn_call {α : Type} {args : α → List PV} {dom : α → Prop} {out : α → List PyData} {E : L2.St → XK} (a : α) (h : JA K M W tr ps (args a)) (hd : dom a) : JN K (tCallS (PrmN K args dom out) E tr) ps (out a) := fun σ F H Q fh S k =>
  h σ F H _ fh S fun vs F1 H1 e1 b => ⟨a, F1, e1.fh, b, hd, fun D F' H' A hD => k D F' H' (A.pre e1) (fresh_back e1.hh hD)⟩
/-- [e for x in ds if b], made anew -/
theorem jn_lc {α : Type} {wi : TI} {g : TG} (xs : List α) (enc : α → PyData) (b : α → Bool) (e : α → PyData) {W' : WX} (hi : JI K M W wi ps (xs.map enc)) (hlen : xs.length ≤ 90000)
    (hs : ∀ x ∈ xs, ∃ qs, JG vs g (wipeK ps vs) (dv K (enc x)) qs ∧ JT K M W' t qs (b x) ∧ (b x = true → JD K M W' te qs (e x))) : JN K (tLc wi g t te vs) ps ((xs.filter b).map e) := fun σ F H Q fh S k => hi σ F H _ fh S fun J F1 H1 e1 it D hD => by
  refine ⟨fun i n H' => n = xs.length - i ∧ i ≤ xs.length ∧ ∃ F', Acc K D F1 H1 F' H' (((xs.take i).filter b).map e), ⟨xs.length, by omega, Nat.zero_le _, F1, Acc.start e1.fh hD⟩, ?_⟩
  rintro i n H' ⟨rfl, him, F2, A⟩
  have accLen : (((xs.take i).filter b).map e).length ≤ i := by
    rw [List.length_map]
    have := List.length_filter_le b (xs.take i)
    rw [List.length_take] at this
    omega
  by_cases hlt : i < xs.length
  · have hx : xs[i]? = some xs[i] := List.getElem?_eq_getElem hlt
    have hmem : xs[i] ∈ xs := List.getElem_mem hlt
    have hex : (xs.map enc)[i]? = some (enc xs[i]) := by rw [List.getElem?_map, hx] <;> rfl
    refine .inr ⟨it.go i H' (A.gr.ff.trans A.gr.fh) (by rw [List.length_map]; exact hlt), fun H3 => ∃ F3, Acc K D F1 H1 F3 H3 (((xs.take (i + 1)).filter b).map e), fun H3 q => ⟨xs.length - (i + 1), by omega, rfl, hlt, q⟩, fun x H3 y => ?_⟩
    obtain ⟨F3, e3, dx⟩ := it.yld i _ F2 H' x H3 A.gr.ff A.gr.fh hex y
    have A3 := A.step e3
    obtain ⟨qs, hg, ht, he⟩ := hs xs[i] hmem
    refine hg x (wipe σ vs) F3 H3 _ e3.fh ((S.mono (e1.ff.trans A3.gr.ff)).wipe vs) dx fun σ4 F4 H4 e4 S4 u4 => ⟨wipe_upto (upto_wipe.trans u4), ht σ4 F4 H4 _ e4.fh S4 fun F5 H5 e5 => ?_⟩
    have A5 := (A3.step e4).step e5
    have ff := filter_take_succ (b := b) hx
    cases hb : b xs[i] with
    | true =>
      rw [hb] at ff
      show te σ4 H5 _
      refine (he hb).go e5.fh (S4.mono e5.ff) fun v F6 H6 e6 p => ?_
      have A6 := A5.step e6
      obtain ⟨acc, h6, _⟩ := A6.at_
      refine ⟨acc, h6, sz_lt (by rw [A6.len h6]; omega), F6, ?_⟩
      rw [ff, List.map_append]
      exact A6.app hD h6 p
    | false =>
      rw [hb] at ff
      show ∃ F3, Acc K D F1 H1 F3 H5 _
      rw [ff]
      simp only [Bool.false_eq_true, if_false, List.append_nil]
      exact ⟨F5, A5⟩
  · have hem : i = xs.length := by omega
    subst hem
    rw [List.take_length] at A
    exact .inl ⟨it.stop _ H' (A.gr.ff.trans A.gr.fh) (by rw [List.length_map]; exact Nat.le_refl _), k D F2 H' (A.pre e1) (fresh_back e1.hh hD)⟩
/-- xs * k -/
theorem jn_rep {ds : List PyData} {k : Nat} (ha : JV K M W ta ps (lv K ds)) (hb : JD K M W tb ps (.int (k : Nat))) (hl : ds.length * k ≤ 100000) (hk : k ≤ 100000) : JN K (tOp rRep ta tb) ps (List.replicate k ds).flatten := fun σ F H Q fh S c =>
  ha.go fh S fun x F1 H1 e1 p => hb.go e1.fh (S.mono e1.ff) fun y F2 H2 e2 q => by
    obtain ⟨a, xs, rfl, hx, hd⟩ := (lv K ds).mn e2.ff p
    refine ⟨a, k, xs, rfl, dp_int q, e2.fh _ _ hx, by omega, by omega, sz_of (by rw [dpLength hd, Int.toNat_natCast]; exact hl), fun D hD => ?_⟩
    have rep : ∀ j : Nat, DpAll K F2 (List.replicate j xs).flatten (List.replicate j ds).flatten := fun j => by
      induction j with
      | zero => exact .nil
      | succ j ih =>
        rw [List.replicate_succ, List.replicate_succ, List.flatten_cons, List.flatten_cons]
        exact dpApp hd ih
    exact c D F2 _ ⟨gr_mut (e1.trans e2) (fresh_back (e1.trans e2).hh hD) (fresh_back e2.fh hD), fresh_back e2.fh hD, _, upd_same, by rw [Int.toNat_natCast]; exact rep k⟩ (fresh_back (e1.trans e2).hh hD)
/-- list(e) -/
theorem jn_listL {ds : List PyData} (h : JD K M W te ps (.list ds)) : JN K (tCB (rListS K) (tCons te tNil)) ps ds := fun σ F H Q fh S c => h.go fh S fun v F1 H1 e p => by
  obtain ⟨a, xs, rfl, hs, hd⟩ := dp_lst p
  exact ⟨a, xs, rfl, .inl (ex_l e.fh hs), fun D hD => c D F1 _ ⟨gr_mut e (fresh_back e.hh hD) (fresh_back e.fh hD), fresh_back e.fh hD, xs, upd_same, hd⟩ (fresh_back e.hh hD)⟩
/-- xs = e, a list of one's own from here on -/
theorem jl_own {i : Nat} {ds : List PyData} {d : PyData} (he : JN K te ps ds) (h : ∀ D F1 H1, H1 D = none → JL K M W D F1 H1 tu (ps.set i (some (xv (.ref D)))) ds (.rt d)) : JS K M W (tSeq (tAsg te (gName i)) tu) ps (.rt (dv K d)) := fun Dn σ F H fh S k =>
  he σ F H _ fh S fun D F1 H1 A hD => h D F H hD Dn _ F1 H1 A ((S.mono A.gr.ff).set i rfl) fun v F' H' g p => k v F' H' g p
/-- .. told as data in between: reads of a list of one's own -/
theorem acc_told {D : Addr} {F1 H1 F H : Hp} {i : Nat} {σ : L2.St} {ds : List PyData} (A : Acc K D F1 H1 F H ds) (S : Sl F σ ps) (hi : ps[i]? = some (some (xv (.ref D)))) : ∃ F0, Ex F F0 ∧ Ex F0 H ∧ Sl F0 σ (ps.set i (some (dv K (.list ds)))) ∧ ∀ a, a ≠ D → F0 a = F a := by
  obtain ⟨acc0, h0, hd0⟩ := A.at_
  have fo : Ex F (upd F D (.lst acc0)) := Ex.new A.off
  refine ⟨upd F D (.lst acc0), fo, fun b o q => ?_, ⟨by rw [List.length_set]; exact S.1, fun b P hb => ?_⟩, fun a ha => upd_ne ha⟩
  · by_cases z : b = D
    · subst z
      rw [upd_same] at q
      cases q
      exact h0
    · rw [upd_ne z] at q
      exact A.gr.fh b o q
  · by_cases z : b = i
    · subst z
      have hl : b < ps.length := (List.getElem?_eq_some_iff.mp hi).1
      rw [List.getElem?_set_self hl] at hb
      cases hb
      exact ⟨_, sl_at S hi, .lst (sq_of upd_same) (dpAll_mono fo hd0)⟩
    · rw [List.getElem?_set_ne (fun y => z y.symm)] at hb
      exact (S.mono fo).2 b P hb
/-- a test that reads the list -/
theorem jl_ifR {D : Addr} {F1 H1 : Hp} {i : Nat} {ds : List PyData} {R : LR} {b : Bool} (hi : ps[i]? = some (some (xv (.ref D)))) (h : JT K M W t (ps.set i (some (dv K (.list ds)))) b) (h1 : b = true → JL K M W D F1 H1 ts ps ds R) (h2 : b = false → JL K M W D F1 H1 tu ps ds R) : JL K M W D F1 H1 (tIfS t ts tu) ps ds R := fun Dn σ F H A S k => by
  obtain ⟨F0, x0, x1, S0, _⟩ := acc_told A S hi
  refine h σ F0 H _ x1 S0 fun F' H' g => ?_
  have A' : Acc K D F1 H1 F H' ds := by
    obtain ⟨acc, hh, hd⟩ := A.at_
    exact ⟨⟨A.gr.ff, A.gr.hh.trans g.hh, A.gr.fh.trans g.hh, A.gr.nw⟩, A.off, acc, g.hh _ _ hh, hd⟩
  cases b with
  | true => exact h1 rfl Dn σ F H' A' S k
  | false => exact h2 rfl Dn σ F H' A' S k
/-- y = list(xs), xs one's own: a copy that is data -/
theorem jl_copyOf {D : Addr} {F1 H1 : Hp} {i j : Nat} {ds : List PyData} (hi : ps[i]? = some (some (xv (.ref D)))) : JL K M W D F1 H1 (tAsg (tCB (rListS K) (tCons (tVar i) tNil)) (gName j)) ps ds (.nx (ps.set j (some (dv K (.list ds)))) ds) := fun Dn σ F H A S k => by
  obtain ⟨acc, h0, hd⟩ := A.at_
  refine ⟨.ref D, sl_at S hi, D, acc, rfl, .inl (sq_of h0), fun l hl => ?_⟩
  have g := Gr.new (o := .lst acc) A.gr.fh hl
  exact k _ _ _ (A.step g) g.ff ((S.mono g.ff).set j (.lst (sq_of upd_same) (dpAll_mono g.ff hd)))
theorem jl_copyT {D : Addr} {F1 H1 : Hp} {i j : Nat} {ds : List PyData} (hi : ps[i]? = some (some (xv (.ref D)))) : JL K M W D F1 H1 (tAsg (tCB (rTupS K) (tCons (tVar i) tNil)) (gName j)) ps ds (.nx (ps.set j (some (dv K (.tuple ds)))) ds) := fun Dn σ F H A S k => by
  obtain ⟨acc, h0, hd⟩ := A.at_
  refine ⟨.ref D, sl_at S hi, D, acc, rfl, .inl ⟨sq_of h0, fun l hl => ?_⟩⟩
  have g := Gr.new (o := .tup acc) A.gr.fh hl
  exact k _ _ _ (A.step g) g.ff ((S.mono g.ff).set j (.tup (st_of upd_same) (dpAll_mono g.ff hd)))
theorem jl_rt {D : Addr} {F1 H1 : Hp} {ds : List PyData} {d : PyData} (h : JD K M W te ps d) : JL K M W D F1 H1 (tRet te) ps ds (.rt d) := fun Dn σ F H A S k => h.go A.gr.fh S fun v F' H' g p => k v F' H' (A.gr.trans g) p
theorem jl_rtS {D : Addr} {F1 H1 : Hp} {ds : List PyData} {d : PyData} (h : JL K M W D F1 H1 ts ps ds (.rt d)) : JL K M W D F1 H1 (tSeq ts tu) ps ds (.rt d) := fun Dn σ F H A S k => h { Dn with nx := tu Dn } σ F H A S k
/-- return of a list made anew -/
theorem fin_new {N : List Str} {Ps : List PV} {us : List V} {F H : Hp} {Q : VK} {ds : List PyData} (h : JN K te (entry N Ps) ds) (fh : Ex F H) (al : AllP F us Ps) (th : ∀ D F' H', Acc K D F H F' H' ds → H D = none → Q (.ref D) H') : tRet te { nx := fun _ H' => Q .non H', rt := Q } (start N us) H := h _ F H _ fh (Sl.start al) th
theorem fin_new1 {N : List Str} {Ps : List PV} {us : List V} {F H : Hp} {Q : VK} {ds : List PyData} (h1 : JS K M W ts (entry N Ps) (.nx qs)) (h : JN K te qs ds) (fh : Ex F H) (al : AllP F us Ps) (th : ∀ D F' H', Acc K D F H F' H' ds → H D = none → Q (.ref D) H') : tSeq ts (tRet te) { nx := fun _ H' => Q .non H', rt := Q } (start N us) H :=
  h1 { nx := tRet te { nx := fun _ H' => Q .non H', rt := Q }, rt := Q } _ F H fh (Sl.start al) fun σ' F' H' g S' => h σ' F' H' _ g.fh S' fun D F2 H2 A hD => th D F2 H2 (A.pre g) (fresh_back g.hh hD)
/-! ### more of lists -/
theorem je_isL {ds : List PyData} {T : String} {b : Bool} (h : JD K M W te ps (.list ds)) (hT : kitB "list" T = some b) : JD K M W (tCB (rIsi K) (tCons te (tCons (tC (.ty T)) tNil))) ps (.bool b) := je_cb (ja_cons h (ja_cons je_x ja_nil)) fun vs F H fh a Q k => by
  obtain ⟨v, u, rfl, p, q⟩ := allP2 a
  obtain ⟨o, xs, rfl, hs, hd⟩ := dp_lst p
  rw [show u = V.ty T from q]
  have ty : TyX K H (.ref o) (.type "list") := by
    rcases ex_l fh hs with (z | ⟨ob, z⟩) | ⟨ob, its, n, z, c, _⟩
    · exact .base (.lst z)
    · exact .base (.frz z)
    · exact .kList z c
  exact ⟨.ref o, .ty T, .type "list", .type T, b, rfl, .ty T, ty, kit_ty hT, k _ F H (Gr.refl fh) (.bl b)⟩
theorem je_sum {ns : List Int} (h : JD K M W te ps (.list (ns.map .int))) : JD K M W (tCB (rSum K) (tCons te tNil)) ps (.int ns.sum) := je_cb (ja_cons h ja_nil) fun vs F H fh b Q k => by
  obtain ⟨v, rfl, p⟩ := allP1 b
  obtain ⟨a, xs, rfl, hs, hd⟩ := dp_lst p
  have e := dpAll_ints_eq hd
  subst e
  exact ⟨a, ns, rfl, ex_l fh hs, k _ F H (Gr.refl fh) (.int _)⟩
theorem je_count {ns : List Int} {i : Int} (h : JD K M W te ps (.list (ns.map .int))) (hr : JA K M W tr ps [dv K (.int i)]) : JD K M W (tBM K "list" (rCntI K) te tr) ps (.int (ns.count i : Nat)) := fun σ F H Q fh S k => h.go fh S fun v F1 H1 e p => by
  obtain ⟨a, xs, rfl, hs, hd⟩ := dp_lst p
  have e2 := dpAll_ints_eq hd
  subst e2
  refine ⟨.inl ⟨rfl, _, ex_l e.fh hs⟩, hr σ F1 H1 _ e.fh (S.mono e.ff) fun vs F2 H2 e2 b => ?_⟩
  obtain ⟨v, rfl, p2⟩ := allP1 b
  exact ⟨a, ns, i, rfl, by rw [dp_int p2], ex_l (e.fh.trans e2.hh) hs, k _ F2 H2 (e.trans e2) (.int _)⟩
theorem dpRev {F : Hp} : ∀ {us : List V} {ds : List PyData}, DpAll K F us ds → DpAll K F us.reverse ds.reverse
  | _, _, .nil => .nil
  | _, _, .cons h t => by
    rw [List.reverse_cons, List.reverse_cons]
    exact dpApp (dpRev t) (.cons h .nil)
theorem je_rev {ds : List PyData} (h : JD K M W te ps (.list ds)) : JD K M W (tRevL K te) ps (.list ds.reverse) := fun σ F H Q fh S k => h.go fh S fun v F1 H1 e p => by
  obtain ⟨a, xs, rfl, hs, hd⟩ := dp_lst p
  exact ⟨a, xs, rfl, ex_l e.fh hs, fun D hD => k _ _ _ (e.trans (Gr.new e.fh hD)) (.lst (sq_of upd_same) (dpAll_mono (Gr.new (o := .lst xs.reverse) e.fh hD).ff (dpRev hd)))⟩
/-- xs[:k], made anew, as an operand of + -/
theorem je_slLV {ds : List PyData} {tl th : TO} {lo hi : Option Int} (h : JD K M W te ps (.list ds)) (h1 : JO K M W tl ps lo) (h2 : JO K M W th ps hi) : JV K M W (tSl (rSlL K) te tl th) ps (lv K (cutD ds lo hi)) := fun σ F H Q fh S k =>
  h.go fh S fun v F1 H1 e p => h1 σ F1 H1 _ e.fh (S.mono e.ff) fun F2 H2 e2 => h2 σ F2 H2 _ e2.fh ((S.mono e.ff).mono e2.ff) fun F3 H3 e3 => by
    obtain ⟨a, xs, rfl, hs, hd⟩ := dp_lst (dp_mono (e2.ff.trans e3.ff) p)
    exact ⟨a, xs, rfl, ex_l e3.fh hs, fun p hp => k _ _ _ (((e.trans e2).trans e3).trans (Gr.new e3.fh hp)) ⟨p, _, rfl, upd_same, dpAll_mono (Gr.new (o := .lst (cutV xs lo hi)) e3.fh hp).ff (cut_all hd lo hi)⟩⟩
/-- xs[:k] of a list or of a tuple -/
def rSlQ (K : PySem.W.Frag) : V → Option Int → Option Int → Hp → VK → Prop := fun x lo hi H Q => rSlL K x lo hi H Q ∨ rSlA K x lo hi H Q
theorem je_slQL {ds : List PyData} {tl th : TO} {lo hi : Option Int} (h : JD K M W te ps (.list ds)) (h1 : JO K M W tl ps lo) (h2 : JO K M W th ps hi) : JD K M W (tSl (rSlQ K) te tl th) ps (.list (cutD ds lo hi)) := fun σ F H Q fh S k =>
  h.go fh S fun v F1 H1 e p => h1 σ F1 H1 _ e.fh (S.mono e.ff) fun F2 H2 e2 => h2 σ F2 H2 _ e2.fh ((S.mono e.ff).mono e2.ff) fun F3 H3 e3 => by
    obtain ⟨a, xs, rfl, hs, hd⟩ := dp_lst (dp_mono (e2.ff.trans e3.ff) p)
    exact .inl ⟨a, xs, rfl, ex_l e3.fh hs, fun p hp => k _ _ _ (((e.trans e2).trans e3).trans (Gr.new e3.fh hp)) (.lst (sq_of upd_same) (dpAll_mono (Gr.new (o := .lst (cutV xs lo hi)) e3.fh hp).ff (cut_all hd lo hi)))⟩
theorem cut_whole {ds : List PyData} {lo hi : Option Int} (h : HT.sIx ds.length 0 lo = 0 ∧ HT.sIx ds.length ds.length hi = ds.length) : cutD ds lo hi = ds := by
  unfold cutD
  rw [h.1, h.2, List.drop_zero, Nat.sub_zero, List.take_length]
theorem je_slQT {ds : List PyData} {tl th : TO} {lo hi : Option Int} (h : JD K M W te ps (.tuple ds)) (h1 : JO K M W tl ps lo) (h2 : JO K M W th ps hi) : JD K M W (tSl (rSlQ K) te tl th) ps (.tuple (cutD ds lo hi)) := fun σ F H Q fh S k =>
  h.go fh S fun v F1 H1 e p => h1 σ F1 H1 _ e.fh (S.mono e.ff) fun F2 H2 e2 => h2 σ F2 H2 _ e2.fh ((S.mono e.ff).mono e2.ff) fun F3 H3 e3 => by
    have p3 := dp_mono (e2.ff.trans e3.ff) p
    obtain ⟨a, xs, rfl, hs, hd⟩ := dp_tup p3
    refine .inr ⟨a, xs, rfl, ex_t e3.fh hs, fun w => k _ _ _ ((e.trans e2).trans e3) ?_, fun _ p hp => k _ _ _ (((e.trans e2).trans e3).trans (Gr.new e3.fh hp)) (.tup (st_of upd_same) (dpAll_mono (Gr.new (o := .tup (cutV xs lo hi)) e3.fh hp).ff (cut_all hd lo hi)))⟩
    rw [dpLength hd] at w
    rw [cut_whole w]
    exact p3
/-- enumerate of a list or of a tuple -/
def iEnumQ (K : PySem.W.Frag) (ta : TA) : TI := fun σ H R => iEnum K ta σ H R ∨ iEnumT K ta σ H R
theorem pi_enumQ {X : Cx} {e : Expr} {ta : TA} {p pos tpos : Pos} {elts : List Expr} {kk : Nat} (hg : Gl X "enumerate") (hm : X.mg "enumerate" = none) (ha : PA X [e] ta) (hs : starEach [e] X.env = [(false, eval e X.env)] := by rfl) :
    PI X (.Tuple elts kk tpos) (.Call (.Name "enumerate" p) [e] [] pos) (iEnumQ X.K ta) :=
  ⟨fun pins s σ H R I h => h.elim (fun h => (pi_enum hg hm ha hs).run pins s σ H R I h) fun h => (pi_enumT hg hm ha hs).run pins s σ H R I h⟩
/-- a list or a tuple walked -/
def iSeqQ (K : PySem.W.Frag) (ta : TE) : TI := fun σ H R => iList K ta σ H R ∨ iTup K ta σ H R
theorem pi_seqQ {X : Cx} {tg e : Expr} {ta : TE} (ha : PE X e ta) : PI X tg e (iSeqQ X.K ta) := ⟨fun pins s σ H R I h => h.elim (fun h => (pi_list ha).run pins s σ H R I h) fun h => (pi_tup ha).run pins s σ H R I h⟩
/-- True in bs, False in bs -/
theorem je_inB {b : Bool} {bs : List Bool} (ha : JD K M W ta ps (.bool b)) (hb : JD K M W tb ps (.list (bs.map .bool))) : JD K M W (tOp (rIn K false) ta tb) ps (.bool (bs.contains b)) := je_op ha hb fun x y F H fh p q Q k => by
  obtain ⟨a, xs, rfl, hs, hd⟩ := dp_lst q
  have e : ∀ {xs : List V} {bs : List Bool}, DpAll K F xs (bs.map PyData.bool) → xs = bs.map V.bl := by
    intro xs bs
    induction bs generalizing xs with
    | nil => intro h; cases h; rfl
    | cons c r ih =>
      intro h
      cases h with
      | cons h1 h2 => rw [dp_bl h1, ih h2] <;> rfl
  have e := e hd
  subst e
  rw [dp_bl p]
  have fl : ∀ bs : List Bool, (bs.map V.bl).all flatV = true := fun bs => by
    induction bs with
    | nil => rfl
    | cons c r ih =>
      rw [List.map_cons, List.all_cons, ih]
      rfl
  have iv : ∀ bs : List Bool, inV (.bl b) (bs.map V.bl) = bs.contains b := fun bs => by
    induction bs with
    | nil => rfl
    | cons c r ih =>
      unfold inV at ih ⊢
      rw [List.map_cons, List.any_cons, List.contains_cons, ih]
      congr 1
      cases b <;> cases c <;> rfl
  refine ⟨a, _, rfl, .inl (ex_l fh hs), rfl, fl bs, ?_⟩
  rw [iv]
  exact k _ F H (Gr.refl fh) (.bl _)
end
end EB

/-! EB12: several lists of one's own at once, lists of such lists; each told as data at the end. -/
namespace EB
open PySem PySem.Spec PyProof.Rows L2 Evl
/-- the lists of one's own: where each lies, and what is known of each item -/
abbrev Ow := List (Addr × List PV)
structure AccM (Os : Ow) (F1 H1 F H : Hp) : Prop where
  gr : Gr F1 H1 F H
  nd : (Os.map (·.1)).Nodup
  fr : ∀ p ∈ Os, H1 p.1 = none
  off : ∀ p ∈ Os, F p.1 = none
  at_ : ∀ p ∈ Os, ∃ acc, H p.1 = some (.lst acc) ∧ AllP F acc p.2
theorem AccM.start {F H : Hp} (fh : Ex F H) : AccM [] F H F H := ⟨Gr.refl fh, List.nodup_nil, fun p h => by simp at h, fun p h => by simp at h, fun p h => by simp at h⟩
theorem AccM.step {Os : Ow} {F1 H1 F H F2 H2 : Hp} (a : AccM Os F1 H1 F H) (g : Gr F H F2 H2) : AccM Os F1 H1 F2 H2 := ⟨a.gr.trans g, a.nd, a.fr, fun p h => by
    obtain ⟨acc, e, _⟩ := a.at_ p h
    exact g.nw p.1 (by rw [e]; exact fun z => nomatch z) (a.off p h), fun p h => by
    obtain ⟨acc, e, d⟩ := a.at_ p h
    exact ⟨acc, g.hh _ _ e, d.mono g.ff⟩⟩
theorem AccM.new {Os : Ow} {F1 H1 F H : Hp} {D : Addr} {acc : List V} {items : List PV} (a : AccM Os F1 H1 F H) (hD : H D = none) (h : AllP F acc items) : AccM ((D, items) :: Os) F1 H1 F (upd H D (.lst acc)) := by
  have f1 : H1 D = none := fresh_back a.gr.hh hD
  have f2 : F D = none := fresh_back a.gr.fh hD
  have ne : ∀ p ∈ Os, p.1 ≠ D := fun p hp z => by
    obtain ⟨acc, e, _⟩ := a.at_ p hp
    rw [z, hD] at e
    cases e
  refine ⟨gr_mut a.gr f1 f2, List.nodup_cons.mpr ⟨fun z => ?_, a.nd⟩, fun p hp => ?_, fun p hp => ?_, fun p hp => ?_⟩
  · obtain ⟨p, hp, e⟩ := List.mem_map.mp z
    exact ne p hp e
  · rcases List.mem_cons.mp hp with rfl | z
    · exact f1
    · exact a.fr p z
  · rcases List.mem_cons.mp hp with rfl | z
    · exact f2
    · exact a.off p z
  · rcases List.mem_cons.mp hp with rfl | z
    · exact ⟨acc, upd_same, h⟩
    · obtain ⟨c, e, d⟩ := a.at_ p z
      exact ⟨c, by rw [upd_ne (ne p z)]; exact e, d⟩
theorem AccM.set {Os : Ow} {F1 H1 F H : Hp} {i : Nat} {D : Addr} {items items' : List PV} {acc : List V} (a : AccM Os F1 H1 F H) (hi : Os[i]? = some (D, items)) (h : AllP F acc items') : AccM (Os.set i (D, items')) F1 H1 F (upd H D (.lst acc)) := by
  have hl : i < Os.length := (List.getElem?_eq_some_iff.mp hi).1
  have hm : (D, items) ∈ Os := List.mem_of_getElem? hi
  have e1 : (Os.set i (D, items')).map (·.1) = Os.map (·.1) := by
    rw [List.map_set]
    apply List.ext_getElem?
    intro j
    by_cases z : i = j
    · subst z
      rw [List.getElem?_set_self (by rw [List.length_map]; exact hl), List.getElem?_map, hi]
      rfl
    · rw [List.getElem?_set_ne z]
  have cases_ : ∀ p ∈ Os.set i (D, items'), p = (D, items') ∨ (p ∈ Os ∧ p.1 ≠ D) := fun p hp => by
    obtain ⟨j, hj, e⟩ := List.getElem_of_mem hp
    rw [List.length_set] at hj
    by_cases z : i = j
    · subst z
      rw [List.getElem_set_self] at e
      exact .inl e.symm
    · rw [List.getElem_set_ne z] at e
      refine .inr ⟨e ▸ List.getElem_mem hj, fun y => ?_⟩
      have nd := List.pairwise_iff_getElem.mp (List.nodup_iff_pairwise_ne.mp a.nd)
      have ei : Os[i] = (D, items) := by
        have := hi
        rw [List.getElem?_eq_getElem hl] at this
        exact Option.some.inj this
      have q1 : (Os.map (·.1))[i]'(by rw [List.length_map]; exact hl) = D := by rw [List.getElem_map, ei]
      have q2 : (Os.map (·.1))[j]'(by rw [List.length_map]; exact hj) = D := by rw [List.getElem_map, e, y]
      rcases Nat.lt_or_gt_of_ne z with w | w
      · exact nd i j _ _ w (q1.trans q2.symm)
      · exact nd j i _ _ w (q2.trans q1.symm)
  refine ⟨gr_mut a.gr (a.fr _ hm) (a.off _ hm), by rw [e1]; exact a.nd, fun p hp => ?_, fun p hp => ?_, fun p hp => ?_⟩
  · rcases cases_ p hp with rfl | ⟨z, _⟩
    · exact a.fr (D, items) hm
    · exact a.fr p z
  · rcases cases_ p hp with rfl | ⟨z, _⟩
    · exact a.off (D, items) hm
    · exact a.off p z
  · rcases cases_ p hp with rfl | ⟨z, ne⟩
    · exact ⟨acc, upd_same, h⟩
    · obtain ⟨c, e, d⟩ := a.at_ p z
      exact ⟨c, by rw [upd_ne ne]; exact e, d⟩
inductive MR
  | nx (qs : Kn) (Os : Ow)
  | rt (d : PyData)
def MW (K : PySem.W.Frag) (F1 H1 : Hp) (Dn : Ends) (F : Hp) : MR → Prop
  | .nx qs Os => ∀ σ' F' H', AccM Os F1 H1 F' H' → Ex F F' → Sl F' σ' qs → Dn.nx σ' H'
  | .rt d => ∀ v F' H', Gr F1 H1 F' H' → Dp K F' v d → Dn.rt v H'
theorem MW.step {K : PySem.W.Frag} {F1 H1 : Hp} {Dn : Ends} {F F' : Hp} {R : MR} (e : Ex F F') (k : MW K F1 H1 Dn F R) : MW K F1 H1 Dn F' R := by
  cases R with
  | nx qs Os => exact fun σ2 F2 H2 A2 e2 S2 => k σ2 F2 H2 A2 (e.trans e2) S2
  | rt d => exact k
def JM (K : PySem.W.Frag) (F1 H1 : Hp) (ts : TS) (ps : Kn) (Os : Ow) (R : MR) : Prop := ∀ Dn σ F H, AccM Os F1 H1 F H → Sl F σ ps → MW K F1 H1 Dn F R → ts Dn σ H
/-- an expression that may change the lists of one's own -/
def JX (F1 H1 : Hp) (te : TE) (ps : Kn) (Os : Ow) (P : PV) (Os' : Ow) : Prop := ∀ σ F H Q, AccM Os F1 H1 F H → Sl F σ ps → (∀ v F' H', AccM Os' F1 H1 F' H' → Ex F F' → P.p F' v → Q v H') → te σ H Q
section
variable {K : PySem.W.Frag} {M : EC → Addr} {W : WX} {F1 H1 : Hp} {ps qs rs : Kn} {ts tu : TS} {te tx ti ta tb : TE} {t : TT} {Os Os0 Os1 Os2 : Ow} {R : MR} {P P0 : PV} {d : PyData} {D : Addr} {items : List PV} {vs : List Nat}
theorem jx_jv (h : JV K M W te ps P) : JX F1 H1 te ps Os P Os := fun σ F H Q A S k => h.go A.gr.fh S fun v F' H' g p => k v F' H' (A.step g) g.ff p
theorem jx_var {i : Nat} (h : ps[i]? = some (some P)) : JX F1 H1 (tVar i) ps Os P Os := fun σ F H Q A S k => by
  obtain ⟨v, h1, h2⟩ := S.2 i P h
  exact ⟨v, h1, k v F H A (Ex.refl _) h2⟩
/-- an item of a list of one's own -/
theorem jx_ix {i j : Nat} (hx : JX F1 H1 tx ps Os (xv (.ref D)) Os0) (hi : JX F1 H1 ti ps Os0 (xv (.int (j : Nat))) Os1) (h : Os1[i]? = some (D, items)) (hj : items[j]? = some P) : JX F1 H1 (tOp (rIxL K) tx ti) ps Os P Os1 := fun σ F H Q A S k => hx σ F H _ A S fun v F2 H2 A2 e2 p => hi σ F2 H2 _ A2 (S.mono e2) fun u F3 H3 A3 e3 q => by
  obtain ⟨acc, hh, hd⟩ := A3.at_ _ (List.mem_of_getElem? h)
  obtain ⟨w, hw, pw⟩ := hd.get hj
  exact ⟨D, acc, j, w, (show v = V.ref D from p), (show u = V.int j from q), sq_of hh, atI_nat hw, k w F3 H3 A3 (e2.trans e3) pw⟩
theorem jx_int {i : Int} (h : JD K M W te ps (.int i)) : JX F1 H1 te ps Os (xv (.int i)) Os := fun σ F H Q A S k => h.go A.gr.fh S fun v F' H' g p => k v F' H' (A.step g) g.ff (dp_int p)
/-- xs.append(e) -/
theorem jx_app {i i0 : Nat} {items0 : List PV} (hx : JX F1 H1 tx ps Os (xv (.ref D)) Os0) (h0 : Os0[i0]? = some (D, items0)) (ha : JX F1 H1 ta ps Os0 P Os1) (h : Os1[i]? = some (D, items)) (hl : items.length < 90000) : JX F1 H1 (tBM K "list" rAppend tx (tCons ta tNil)) ps Os (dv K .none) (Os1.set i (D, items ++ [P])) := fun σ F H Q A S k => hx σ F H _ A S fun v F2 H2 A2 e2 p => by
  obtain rfl : v = V.ref D := p
  obtain ⟨acc0, hh0, _⟩ := A2.at_ _ (List.mem_of_getElem? h0)
  refine ⟨.inl ⟨rfl, acc0, sq_of hh0⟩, ha σ F2 H2 _ A2 (S.mono e2) fun u F3 H3 A3 e3 q => ?_⟩
  obtain ⟨acc, hh, hd⟩ := A3.at_ _ (List.mem_of_getElem? h)
  exact ⟨D, acc, u, rfl, rfl, hh, sz_lt (by rw [hd.length]; exact Nat.lt_trans hl (by decide)), k .non F3 _ (A3.set h (hd.app (.cons q .nil))) (e2.trans e3) .non⟩
theorem allErase {H : Hp} : ∀ {us : List V} {Ps : List PV} (j : Nat), AllP H us Ps → AllP H (us.eraseIdx j) (Ps.eraseIdx j)
  | _, _, _, .nil => .nil
  | _, _, 0, .cons _ b => b
  | _, _, j + 1, .cons a b => .cons a (allErase j b)
theorem allSet {H : Hp} {v : V} {P : PV} : ∀ {us : List V} {Ps : List PV} (j : Nat), AllP H us Ps → P.p H v → AllP H (us.set j v) (Ps.set j P)
  | _, _, _, .nil, _ => .nil
  | _, _, 0, .cons _ b, p => .cons p b
  | _, _, j + 1, .cons a b, p => .cons a (allSet j b p)
/-- xs.pop(k) -/
theorem jx_pop {i i0 : Nat} {items0 : List PV} {j : Nat} (hx : JX F1 H1 tx ps Os (xv (.ref D)) Os0) (h0 : Os0[i0]? = some (D, items0)) (ha : JX F1 H1 ta ps Os0 (xv (.int (j : Nat))) Os1) (h : Os1[i]? = some (D, items)) (hl : items.length < 90000) (hj : items[j]? = some P) : JX F1 H1 (tBM K "list" rPopAt tx (tCons ta tNil)) ps Os P (Os1.set i (D, items.eraseIdx j)) := fun σ F H Q A S k => hx σ F H _ A S fun v F2 H2 A2 e2 p => by
  obtain rfl : v = V.ref D := p
  obtain ⟨acc0, hh0, _⟩ := A2.at_ _ (List.mem_of_getElem? h0)
  refine ⟨.inl ⟨rfl, acc0, sq_of hh0⟩, ha σ F2 H2 _ A2 (S.mono e2) fun u F3 H3 A3 e3 q => ?_⟩
  obtain rfl : u = V.int (j : Nat) := q
  obtain ⟨acc, hh, hd⟩ := A3.at_ _ (List.mem_of_getElem? h)
  obtain ⟨w, hw, pw⟩ := hd.get hj
  have hjl : j < acc.length := (List.getElem?_eq_some_iff.mp hw).1
  have hal : acc.length = items.length := hd.length
  refine ⟨D, acc, j, j, w, rfl, rfl, hh, by omega, by omega, ?_, hw, k w F3 _ (A3.set h (allErase j hd)) (e2.trans e3) pw⟩
  unfold seqIndex?
  simp
  omega
theorem jm_js (h : JS K M W ts ps (.nx qs)) : JM K F1 H1 ts ps Os (.nx qs Os) := fun Dn σ F H A S k => h Dn σ F H A.gr.fh S fun σ' F' H' g s => k σ' F' H' (A.step g) g.ff s
theorem jm_weak (h : JM K F1 H1 ts ps Os (.nx qs Os1)) (w : Weak qs rs) : JM K F1 H1 ts ps Os (.nx rs Os1) := fun Dn σ F H A S k => h Dn σ F H A S fun σ' F' H' A' e s => k σ' F' H' A' e (s.weak w)
theorem jm_is (h : JM K F1 H1 ts ps Os (.nx qs Os1)) (e : Os1 = Os2) : JM K F1 H1 ts ps Os (.nx qs Os2) := e ▸ h
theorem jm_seq (h1 : JM K F1 H1 ts ps Os (.nx qs Os1)) (h2 : JM K F1 H1 tu qs Os1 R) : JM K F1 H1 (tSeq ts tu) ps Os R := fun Dn σ F H A S k => h1 { Dn with nx := tu Dn } σ F H A S fun σ' F' H' A' e S' => h2 Dn σ' F' H' A' S' (MW.step e k)
theorem jm_if {b : Bool} (h : JT K M W t ps b) (h1 : b = true → JM K F1 H1 ts ps Os R) (h2 : b = false → JM K F1 H1 tu ps Os R) : JM K F1 H1 (tIfS t ts tu) ps Os R := fun Dn σ F H A S k => h σ F H _ A.gr.fh S fun F' H' g => by
  have k' := MW.step g.ff k
  cases b with
  | true => exact h1 rfl Dn σ F' H' (A.step g) (S.mono g.ff) k'
  | false => exact h2 rfl Dn σ F' H' (A.step g) (S.mono g.ff) k'
theorem jm_drop (h : JX F1 H1 te ps Os P Os1) : JM K F1 H1 (tDrop te) ps Os (.nx ps Os1) := fun Dn σ F H A S k => h σ F H _ A S fun v F' H' A' e p => k σ F' H' A' e (S.mono e)
theorem jm_asg {i : Nat} (h : JX F1 H1 te ps Os P Os1) : JM K F1 H1 (tAsg te (gName i)) ps Os (.nx (ps.set i (some P)) Os1) := fun Dn σ F H A S k => h σ F H _ A S fun v F' H' A' e p => k _ F' H' A' e ((S.mono e).set i p)
/-- xs[k] = e -/
theorem jm_set {i j : Nat} (h : JX F1 H1 te ps Os P Os0) (hx : JX F1 H1 tx ps Os0 (xv (.ref D)) Os1) (hi : JX F1 H1 ti ps Os1 (xv (.int (j : Nat))) Os2) (ho : Os2[i]? = some (D, items)) (hj : j < items.length) : JM K F1 H1 (tAsg te (gSub tx ti rSetL)) ps Os (.nx ps (Os2.set i (D, items.set j P))) := fun Dn σ F H A S k => h σ F H _ A S fun v F2 H2 A2 e2 p => hx σ F2 H2 _ A2 (S.mono e2) fun x F3 H3 A3 e3 px => by
  obtain rfl : x = V.ref D := px
  refine hi σ F3 H3 _ A3 ((S.mono e2).mono e3) fun u F4 H4 A4 e4 q => ?_
  obtain rfl : u = V.int (j : Nat) := q
  obtain ⟨acc, hh, hd⟩ := A4.at_ _ (List.mem_of_getElem? ho)
  exact ⟨D, acc, (j : Nat), j, rfl, rfl, hh, ixN_nat (by rw [hd.length]; exact hj), k σ F4 _ (A4.set ho (allSet j hd (PV.mn _ (e3.trans e4) p))) ((e2.trans e3).trans e4) (((S.mono e2).mono e3).mono e4)⟩
/-- xs = [e, ..] -/
theorem jm_lst {i : Nat} {tr : TA} {Ps : List PV} (h : JA K M W tr ps Ps) (hl : Ps.length ≤ 100000) (hu : ∀ D, JM K F1 H1 tu (ps.set i (some (xv (.ref D)))) ((D, Ps) :: Os) R) : JM K F1 H1 (tSeq (tAsg (tLst tr) (gName i)) tu) ps Os R := fun Dn σ F H A S k => h σ F H _ A.gr.fh S fun vs F2 H2 g a => ⟨sz_of (by rw [a.length]; exact hl), fun D hD => hu D Dn _ F2 _ ((A.step g).new hD a) ((S.mono g.ff).set i rfl) (MW.step g.ff k)⟩
theorem jm_for {wi : TI} {g : TG} {tb : TS} (xs : List PyData) (f : Nat → Kn) (l : Nat → Ow) (hi : JI K M W wi ps xs) (h0 : f 0 = ps) (hl0 : l 0 = Os)
    (hs : ∀ (j : Nat) (d : PyData), xs[j]? = some d → ∃ qs, JG vs g (f j) (dv K d) qs ∧ JM K F1 H1 tb qs (l j) (.nx (f (j + 1)) (l (j + 1)))) : JM K F1 H1 (tFor wi g tb) ps Os (.nx (f xs.length) (l xs.length)) := fun Dn σ F H A S k => hi σ F H _ A.gr.fh S fun J F2 H2 e1 it => by
  refine ⟨fun i n σ' H' => n = xs.length - i ∧ i ≤ xs.length ∧ ∃ F', AccM (l i) F1 H1 F' H' ∧ Ex F2 F' ∧ Sl F' σ' (f i), ⟨xs.length, by omega, Nat.zero_le _, F2, by rw [hl0]; exact A.step e1, Ex.refl _, by rw [h0]; exact S.mono e1.ff⟩, ?_⟩
  rintro i n σ' H' ⟨rfl, him, F3, A3, e3, S3⟩
  by_cases hlt : i < xs.length
  · refine .inr ⟨it.go i H' (e3.trans A3.gr.fh) hlt, fun σ4 H4 => ∃ F4, AccM (l (i + 1)) F1 H1 F4 H4 ∧ Ex F2 F4 ∧ Sl F4 σ4 (f (i + 1)), fun σ4 H4 q => ⟨xs.length - (i + 1), by omega, rfl, hlt, q⟩, fun x H4 y => ?_⟩
    obtain ⟨F4, e4, dx⟩ := it.yld i _ F3 H' x H4 e3 A3.gr.fh (List.getElem?_eq_getElem hlt) y
    obtain ⟨qs, hg, hb⟩ := hs i _ (List.getElem?_eq_getElem hlt)
    have A4 := A3.step e4
    refine hg x σ' F4 H4 _ e4.fh (S3.mono e4.ff) dx fun σ5 F5 H5 e5 S5 _ => ?_
    exact hb _ σ5 F5 H5 (A4.step e5) S5 fun σ6 F6 H6 A6 e6 S6 => ⟨F6, A6, ((e3.trans e4.ff).trans e5.ff).trans e6, S6⟩
  · have hem : i = xs.length := by omega
    subst hem
    exact .inl ⟨it.stop _ H' (e3.trans A3.gr.fh) (Nat.le_refl _), k σ' F3 H' A3 (e1.ff.trans e3) S3⟩
/-- return of a list of one's own -/
theorem jm_ret {i j : Nat} {ds : List PyData} (hi : ps[i]? = some (some (xv (.ref D)))) (h : Os[j]? = some (D, ds.map (dv K))) : JM K F1 H1 (tRet (tVar i)) ps Os (.rt (.list ds)) := fun Dn σ F H A S k => by
  have hm := List.mem_of_getElem? h
  obtain ⟨acc, hh, hd⟩ := A.at_ _ hm
  exact ⟨.ref D, sl_at S hi, k _ _ H (gr_in A.gr (A.fr _ hm) (A.off _ hm) hh) (.lst (sq_of upd_same) (dpAll_mono (Ex.new (A.off _ hm)) hd.dv))⟩
theorem jm_rt {d : PyData} (h : JD K M W te ps d) : JM K F1 H1 (tRet te) ps Os (.rt d) := fun Dn σ F H A S k => h.go A.gr.fh S fun v F' H' g p => k v F' H' (A.gr.trans g) p
/-- from here on lists of one's own -/
theorem js_own {d : PyData} (h : ∀ F1 H1, JM K F1 H1 ts ps [] (.rt d)) : JS K M W ts ps (.rt (dv K d)) := fun Dn σ F H fh S k => h F H Dn σ F H (AccM.start fh) S fun v F' H' g p => k v F' H' g p
/-- .. and the other way: the lists that are told no more change (the rest stays one's own) -/
theorem jm_tell {i j : Nat} {ds : List PyData} (hi : ps[i]? = some (some (xv (.ref D)))) (h : Os = (D, ds.map (dv K)) :: Os1) (hu : JM K F1 H1 tu (ps.set i (some (lv K ds))) Os1 R) : JM K F1 H1 tu ps Os R := fun Dn σ F H A S k => by
  subst h
  have hm : (D, ds.map (dv K)) ∈ (D, ds.map (dv K)) :: Os1 := List.mem_cons_self
  obtain ⟨acc, hh, hd⟩ := A.at_ _ hm
  have off := A.off _ hm
  have fo : Ex F (upd F D (.lst acc)) := Ex.new off
  have nd := List.nodup_cons.mp A.nd
  refine hu Dn σ (upd F D (.lst acc)) H ⟨gr_in A.gr (A.fr _ hm) off hh, nd.2, fun p hp => A.fr p (List.mem_cons_of_mem _ hp), fun p hp => ?_, fun p hp => ?_⟩ ?_ (MW.step fo k)
  · have ne : p.1 ≠ D := fun z => nd.1 (List.mem_map.mpr ⟨p, hp, z⟩)
    show upd F D (.lst acc) p.1 = none
    rw [upd_ne ne]
    exact A.off p (List.mem_cons_of_mem _ hp)
  · obtain ⟨c, e, q⟩ := A.at_ p (List.mem_cons_of_mem _ hp)
    exact ⟨c, e, q.mono fo⟩
  · refine ⟨by rw [List.length_set]; exact S.1, fun b P hb => ?_⟩
    by_cases z : b = i
    · subst z
      have hl : b < ps.length := (List.getElem?_eq_some_iff.mp hi).1
      rw [List.getElem?_set_self hl] at hb
      cases hb
      exact ⟨_, sl_at S hi, D, acc, rfl, upd_same, dpAll_mono fo hd.dv⟩
    · rw [List.getElem?_set_ne (fun y => z y.symm)] at hb
      exact (S.mono fo).2 b P hb
theorem jm_done (h : JS K M W tu ps (.rt (dv K d))) : JM K F1 H1 tu ps Os (.rt d) := fun Dn σ F H A S k => h Dn σ F H A.gr.fh S fun v F' H' g p => k v F' H' (A.gr.trans g) p
end
end EB

/-! EB13: comb, shifts and masks, lists unpacked, not in, chains of ==. -/
namespace EB
open PySem PySem.Spec PyProof.Rows L2 Evl PySem.W
section
variable {X : Cx}
/-- f(e, ..), f a built-in function that a module's name holds -/
theorem pe_callG {x : Str} {p pos : Pos} {e : Expr} {es : List Expr} {id : String} {r : List V → Hp → VK → Prop} {t : TA} (hc : CallR X (.builtin id) r) (hg : Gl X x) (hm : X.mg x = some (.builtin id)) (ha : PA X (e :: es) t) (hdb : (x == ("__debug__" : Str)) = false := by decide)
    (he : starEach (e :: es) X.env = (false, eval e X.env) :: starEach es X.env := by rfl) (hpl : (backTo pos (starEach es X.env)).any (·.1) = false := by rfl) : PE X (.Call (.Name x p) (e :: es) [] pos) (tCB r t) := by
  refine ⟨fun pins s σ H Q I h => ?_⟩
  refine wpAny_Call_Name_kw (ld_glob I hg hm ?_ hdb)
  exact PyProof.Rows.callWith_builtin1 (thn (ha.run pos pins s σ H _ I h) fun us s1 ⟨vs, H1, I1, r1, q1⟩ => hc pins s1 σ H1 vs us Q I1 r1 q1) he hpl
def rComb : List V → Hp → VK → Prop := fun xs H Q => ∃ a b : Int, xs = [.int a, .int b] ∧ 0 ≤ a ∧ 0 ≤ b ∧ a < 2 ^ 64 ∧ (b ≤ 9000 ∨ a ≤ 18000) ∧ Q (.int (mcComb a b)) H
theorem cr_comb : CallR X (.builtin "math.comb") rComb := by
  intro pins s σ H xs us Q I r h
  obtain ⟨a, b, rfl, h0, h1, h2, h3, q⟩ := h
  cases r with
  | cons r1 r =>
    cases r with
    | cons r2 r =>
      cases r
      obtain ⟨t, rfl⟩ := r1
      obtain ⟨u, rfl⟩ := r2
      exact mc_comb_v h0 h1 h2 h3 rfl ⟨.int (mcComb a b), H, I.tok _, ⟨_, rfl⟩, q⟩
end
section
variable {K : PySem.W.Frag} {M : EC → Addr} {W : WX} {ps qs : Kn} {te ta tb tc : TE} {t : TT} {vs : List Nat}
theorem je_comb {a b : Int} (ha : JD K M W ta ps (.int a)) (hb : JD K M W tb ps (.int b)) (h0 : 0 ≤ a) (h1 : 0 ≤ b) (h2 : a < 2 ^ 64) (h3 : b ≤ 9000 ∨ a ≤ 18000) : JD K M W (tCB rComb (tCons ta (tCons tb tNil))) ps (.int (mcComb a b)) := je_cb (ja_cons ha (ja_cons hb ja_nil)) fun vs F H fh c Q k => by
  obtain ⟨v, u, rfl, p, q⟩ := allP2 c
  rw [dp_int p, dp_int q]
  exact ⟨a, b, rfl, h0, h1, h2, h3, k _ F H (Gr.refl fh) (.int _)⟩
theorem je_shl {i j : Int} (ha : JD K M W ta ps (.int i)) (hb : JD K M W tb ps (.int j)) (hc : CPow i j) : JD K M W (tOp (rI CPow fun i j => .int (i * 2 ^ j.toNat)) ta tb) ps (.int (i * 2 ^ j.toNat)) := je_iiC ha hb hc fun _ => .int _
theorem je_shr {i j : Int} (ha : JD K M W ta ps (.int i)) (hb : JD K M W tb ps (.int j)) (hc : 0 ≤ j) : JD K M W (tOp (rI (fun _ j => 0 ≤ j) fun i j => .int (i / 2 ^ j.toNat)) ta tb) ps (.int (i / 2 ^ j.toNat)) := je_iiC (C := fun _ j => 0 ≤ j) ha hb hc fun _ => .int _
theorem je_band {i j : Int} (ha : JD K M W ta ps (.int i)) (hb : JD K M W tb ps (.int j)) : JD K M W (tOp (rI0 fun i j => .int (Builtin.bitAnd i j)) ta tb) ps (.int (Builtin.bitAnd i j)) := je_ii0 ha hb fun _ => .int _
theorem jg_unl {gs : TGs} {n : Nat} {ds : List PyData} (h : JGs vs gs ps (ds.map (dv K)) qs) (hn : ds.length = n := by rfl) : JG vs (gUnl K n gs) ps (dv K (.list ds)) qs := fun v σ F H Q fh S p k => by
  obtain ⟨a, xs, rfl, hs, hd⟩ := dp_lst p
  exact ⟨a, xs, rfl, ex_l fh hs, by rw [dpLength hd, hn], h xs σ F H Q fh S (AllP.of_dv hd) k⟩
theorem je_notInT {i : Int} {ns : List Int} (ha : JD K M W ta ps (.int i)) (hb : JD K M W tb ps (.tuple (ns.map .int))) : JD K M W (tOp (rIn K true) ta tb) ps (.bool (!ns.contains i)) := je_op ha hb fun x y F H fh p q Q k => by
  obtain ⟨a, xs, rfl, hs, hd⟩ := dp_tup q
  have e := dpAll_ints_eq hd
  subst e
  rw [dp_int p]
  refine ⟨a, _, rfl, .inr (ex_t fh hs), rfl, flat_ints ns, ?_⟩
  rw [inV_ints]
  exact k _ F H (Gr.refl fh) (.bl _)
theorem je_notInL {i : Int} {ns : List Int} (ha : JD K M W ta ps (.int i)) (hb : JD K M W tb ps (.list (ns.map .int))) : JD K M W (tOp (rIn K true) ta tb) ps (.bool (!ns.contains i)) := je_op ha hb fun x y F H fh p q Q k => by
  obtain ⟨a, xs, rfl, hs, hd⟩ := dp_lst q
  have e := dpAll_ints_eq hd
  subst e
  rw [dp_int p]
  refine ⟨a, _, rfl, .inl (ex_l fh hs), rfl, flat_ints ns, ?_⟩
  rw [inV_ints]
  exact k _ F H (Gr.refl fh) (.bl _)
theorem rEq_bl {a b : Bool} {x y : V} {F H : Hp} (p : Dp K F x (.bool a)) (q : Dp K F y (.bool b)) {Q : VK} (h : Q (.bl (a == b)) H) : rEq x y H Q := by
  rw [dp_bl p, dp_bl q]
  refine ⟨rfl, ?_⟩
  have e : decide (V.bl a = V.bl b) = (a == b) := by
    cases a <;> cases b <;> simp
  rw [e]
  exact h
theorem je_eqB {a b : Bool} (ha : JD K M W ta ps (.bool a)) (hb : JD K M W tb ps (.bool b)) : JD K M W (tOp rEq ta tb) ps (.bool (a == b)) := je_op ha hb fun x y F H fh p q Q k => rEq_bl p q (k _ F H (Gr.refl fh) (.bl _))
/-- a == b == c, of bools -/
theorem je_chainB {a b c : Bool} (ha : JD K M W ta ps (.bool a)) (hb : JD K M W tb ps (.bool b)) (hc : JD K M W tc ps (.bool c)) : JD K M W (tChain rEq rEq ta tb tc) ps (.bool ((a == b) && (b == c))) :=
  je_chain ha hb (fun x y F H fh p q Q k => rEq_bl p q k) (fun _ => hc) (fun x y F H fh p q Q k => rEq_bl p q k)
end
end EB

namespace DC
section
variable {α β : Type}
/-- sums over a list -/
def S (xs : List α) (f : α → Nat) : Nat := (xs.map f).sum
theorem S_nil (f : α → Nat) : S [] f = 0 := rfl
theorem S_cons (x : α) (xs : List α) (f : α → Nat) : S (x :: xs) f = f x + S xs f := by simp [S]
theorem S_app (xs ys : List α) (f : α → Nat) : S (xs ++ ys) f = S xs f + S ys f := by simp [S]
theorem S_add (xs : List α) (f g : α → Nat) : S xs (fun x => f x + g x) = S xs f + S xs g := by
  induction xs with
  | nil => rfl
  | cons a r ih => rw [S_cons, S_cons, S_cons, ih]; omega
theorem S_congr {xs : List α} {f g : α → Nat} (h : ∀ x ∈ xs, f x = g x) : S xs f = S xs g := by
  induction xs with
  | nil => rfl
  | cons a r ih => rw [S_cons, S_cons, h a List.mem_cons_self, ih fun x hx => h x (List.mem_cons_of_mem _ hx)]
theorem S_zero (xs : List α) : S xs (fun _ => 0) = 0 := by
  induction xs with
  | nil => rfl
  | cons a r ih => rw [S_cons, ih]
theorem S_mul (c : Nat) (xs : List α) (f : α → Nat) : S xs (fun x => c * f x) = c * S xs f := by
  induction xs with
  | nil => rfl
  | cons a r ih => rw [S_cons, S_cons, ih, Nat.mul_add]
theorem S_comm (xs : List α) (ys : List β) (f : α → β → Nat) : S xs (fun x => S ys (f x)) = S ys (fun y => S xs fun x => f x y) := by
  induction xs with
  | nil => rw [S_nil, show (fun y => S [] fun x => f x y) = fun _ => 0 from rfl, S_zero]
  | cons a r ih =>
    rw [S_cons, ih, ← S_add]
    exact S_congr fun y _ => by rw [S_cons]
theorem S_one (xs : List α) : S xs (fun _ => 1) = xs.length := by
  induction xs with
  | nil => rfl
  | cons a r ih => rw [S_cons, ih, List.length_cons]; omega
theorem S_filter (xs : List α) (p : α → Bool) (f : α → Nat) : S (xs.filter p) f = S xs (fun x => if p x = true then f x else 0) := by
  induction xs with
  | nil => rfl
  | cons a r ih =>
    rw [List.filter_cons, S_cons]
    cases h : p a with
    | true => rw [if_pos rfl, if_pos rfl, S_cons, ih]
    | false => rw [if_neg (by decide), if_neg (by decide), ih, Nat.zero_add]
theorem S_len (xs : List α) (p : α → Bool) : (xs.filter p).length = S xs (fun x => if p x = true then 1 else 0) := by rw [← S_one, S_filter]
variable [DecidableEq α]
theorem S_point {xs : List α} (h : xs.Nodup) {r : α} (hr : r ∈ xs) (f : α → Nat) : S xs (fun x => if x = r then f x else 0) = f r := by
  induction xs with
  | nil => cases hr
  | cons a t ih =>
    rw [S_cons]
    obtain ⟨h1, h2⟩ := List.nodup_cons.mp h
    rcases List.mem_cons.mp hr with e | e
    · subst e
      have z0 : S t (fun x => if x = r then f x else 0) = S t fun _ => 0 := S_congr fun x hx => if_neg fun (z : x = r) => h1 (z ▸ hx)
      rw [if_pos rfl, z0, S_zero]
      rfl
    · rw [if_neg fun (z : a = r) => h1 (z ▸ e), ih h2 e, Nat.zero_add]
/-- all but one -/
def but (xs : List α) (r : α) : List α := xs.filter fun x => !decide (x = r)
theorem mem_but {xs : List α} {r x : α} : x ∈ but xs r ↔ x ∈ xs ∧ x ≠ r := by
  unfold but
  rw [List.mem_filter]
  simp
theorem S_but (xs : List α) (r : α) (f : α → Nat) : S (but xs r) f = S xs (fun x => if x ≠ r then f x else 0) := by
  unfold but
  rw [S_filter]
  exact S_congr fun x _ => by
    by_cases h : x = r <;> simp [h]
theorem S_but_add {xs : List α} (h : xs.Nodup) {r : α} (hr : r ∈ xs) (f : α → Nat) : S (but xs r) f + f r = S xs f := by
  rw [S_but]
  have := S_point h hr f
  rw [← this, ← S_add]
  exact S_congr fun x _ => by
    by_cases z : x = r <;> simp [z]
theorem but_len {xs : List α} (h : xs.Nodup) {r : α} (hr : r ∈ xs) : (but xs r).length + 1 = xs.length := by
  have := S_but_add h hr fun _ => 1
  rw [S_one, S_one] at this
  exact this
/-- what is on the left of two -/
structure Ori (xs : List α) (g : α → α → α → Bool) : Prop where
  nd : xs.Nodup
  l1 : ∀ p q, g p q p = false
  l2 : ∀ p q, g p q q = false
  op : ∀ p q r, p ∈ xs → q ∈ xs → r ∈ xs → p ≠ q → r ≠ p → r ≠ q → g q p r = !g p q r
variable {xs : List α} {g : α → α → α → Bool}
theorem Ori.but (o : Ori xs g) (r : α) : Ori (but xs r) g where
  nd := List.Pairwise.filter _ o.nd
  l1 := o.l1
  l2 := o.l2
  op := fun p q s hp hq hs => o.op p q s (mem_but.mp hp).1 (mem_but.mp hq).1 (mem_but.mp hs).1
def lf (xs : List α) (g : α → α → α → Bool) (p q : α) : Nat := S xs fun r => if g p q r = true then 1 else 0
def T (xs : List α) (g : α → α → α → Bool) (j : Nat) : Nat := S xs fun p => S xs fun q => if p ≠ q ∧ lf xs g p q = j then 1 else 0
/-- those on the right -/
theorem lf_op (o : Ori xs g) {p q : α} (hp : p ∈ xs) (hq : q ∈ xs) (h : p ≠ q) : lf xs g p q + lf xs g q p + 2 = xs.length := by
  unfold lf
  have h1 := S_point o.nd hp fun _ => 1
  have h2 := S_point o.nd hq fun _ => 1
  rw [← S_one, ← S_add]
  have e : S xs (fun _ => 1) = S xs fun r => ((if g p q r = true then 1 else 0) + (if g q p r = true then 1 else 0)) + ((if r = p then 1 else 0) + (if r = q then 1 else 0)) := S_congr fun r hr => by
    by_cases z1 : r = p
    · subst z1
      rw [o.l1, o.l2]
      simp [h]
    · by_cases z2 : r = q
      · subst z2
        rw [o.l1, o.l2]
        simp [z1]
      · rw [o.op p q r hp hq hr h z1 z2]
        cases g p q r <;> simp [z1, z2]
  rw [e, S_add xs (fun r => (if g p q r = true then 1 else 0) + (if g q p r = true then 1 else 0)), S_add xs (fun r => if r = p then 1 else 0), h1, h2, S_add]
theorem T_sym (o : Ori xs g) {j : Nat} (hj : j + 2 ≤ xs.length) : T xs g j = T xs g (xs.length - 2 - j) := by
  unfold T
  rw [S_comm]
  refine S_congr fun p hp => S_congr fun q hq => ?_
  by_cases h : p = q
  · simp [h]
  · have := lf_op o hp hq h
    have e : (q ≠ p ∧ lf xs g q p = j) ↔ (p ≠ q ∧ lf xs g p q = xs.length - 2 - j) := ⟨fun ⟨_, y⟩ => ⟨h, by omega⟩, fun ⟨_, y⟩ => ⟨fun z => h z.symm, by omega⟩⟩
    simp only [e]
theorem S_range_point {n k : Nat} (h : k < n) : S (List.range n) (fun j => if k = j then 1 else 0) = 1 := by
  have h2 := S_point (List.nodup_range (n := n)) (List.mem_range.mpr h) fun _ => 1
  refine Eq.trans (S_congr fun x _ => ?_) h2
  by_cases z : k = x
  · rw [if_pos z, if_pos z.symm]
  · rw [if_neg z, if_neg fun y => z y.symm]
theorem T_sum (o : Ori xs g) : S (List.range (xs.length - 1)) (T xs g) + xs.length = xs.length * xs.length := by
  unfold T
  rw [S_comm]
  have e : S xs (fun p => S (List.range (xs.length - 1)) fun j => S xs fun q => if p ≠ q ∧ lf xs g p q = j then 1 else 0) = S xs fun p => S xs fun q => if p ≠ q then 1 else 0 := S_congr fun p hp => by
    rw [S_comm]
    refine S_congr fun q hq => ?_
    by_cases h : p = q
    · simp [h, S_zero]
    · have := lf_op o hp hq h
      rw [if_pos h]
      refine Eq.trans (S_congr fun j _ => ?_) (S_range_point (n := xs.length - 1) (k := lf xs g p q) (by omega))
      simp [h]
  rw [e, ← S_one, ← S_add]
  have e2 : S xs (fun p => S xs (fun q => if p ≠ q then 1 else 0) + 1) = S xs fun _ => S xs (fun _ => 1) * 1 := S_congr fun p hp => by
    have := S_but_add o.nd hp fun _ => 1
    rw [S_but] at this
    rw [Nat.mul_one, ← this]
    congr 1
    exact S_congr fun q _ => by
      by_cases z : p = q
      · simp [z]
      · rw [if_pos z, if_pos fun y => z y.symm]
  rw [e2, show (fun _ : α => S xs (fun _ => 1) * 1) = fun _ => S xs (fun _ => 1) * (fun _ => 1) () from rfl]
  have := S_mul (S xs fun _ => 1) xs fun _ => 1
  rw [← this]
theorem lf_but (o : Ori xs g) {p q r : α} (hr : r ∈ xs) : lf (but xs r) g p q + (if g p q r = true then 1 else 0) = lf xs g p q := S_but_add o.nd hr _
/-- each point dropped once -/
theorem T_drop (o : Ori xs g) {j : Nat} (hj : j + 2 ≤ xs.length) : S xs (fun r => T (but xs r) g j) = (xs.length - 2 - j) * T xs g j + (j + 1) * T xs g (j + 1) := by
  have e1 : S xs (fun r => T (but xs r) g j) = S xs fun r => S xs fun p => S xs fun q => if r ≠ p ∧ r ≠ q ∧ p ≠ q ∧ lf (but xs r) g p q = j then 1 else 0 := S_congr fun r hr => by
    unfold T
    rw [S_but]
    refine S_congr fun p hp => ?_
    by_cases h : p = r
    · subst h
      simp [S_zero]
    · rw [if_pos h, S_but]
      refine S_congr fun q hq => ?_
      by_cases h2 : q = r
      · subst h2
        simp
      · have a : r ≠ p := fun z => h z.symm
        have b : r ≠ q := fun z => h2 z.symm
        rw [if_pos h2]
        simp [a, b]
  rw [e1, S_comm]
  unfold T
  rw [← S_mul, ← S_mul, ← S_add]
  refine S_congr fun p hp => ?_
  rw [S_comm, ← S_mul, ← S_mul, ← S_add]
  refine S_congr fun q hq => ?_
  by_cases h : p = q
  · subst h
    simp [S_zero]
  · have hop := lf_op o hp hq h
    have e2 : S xs (fun r => if r ≠ p ∧ r ≠ q ∧ p ≠ q ∧ lf (but xs r) g p q = j then 1 else 0) = S xs fun r => (if lf xs g p q = j then 1 else 0) * (if g q p r = true then 1 else 0) + (if lf xs g p q = j + 1 then 1 else 0) * (if g p q r = true then 1 else 0) := S_congr fun r hr => by
      have hb := lf_but o (p := p) (q := q) hr
      by_cases z1 : r = p
      · subst z1
        rw [o.l1, o.l2]
        simp
      · by_cases z2 : r = q
        · subst z2
          rw [o.l1, o.l2]
          simp
        · rw [o.op p q r hp hq hr h z1 z2]
          cases hg : g p q r with
          | true =>
            rw [hg] at hb
            simp only [if_true] at hb
            have : lf (but xs r) g p q = j ↔ lf xs g p q = j + 1 := by omega
            simp [z1, z2, h, this]
          | false =>
            rw [hg] at hb
            simp at hb
            simp [z1, z2, h, hb]
    rw [e2, S_add, S_mul, S_mul]
    show _ * lf xs g q p + _ * lf xs g p q = _
    by_cases a : lf xs g p q = j
    · have b : ¬ lf xs g p q = j + 1 := by omega
      simp [a, h]
      omega
    · by_cases b : lf xs g p q = j + 1
      · simp [b, h]
      · simp [a, b, h]
end
end DC

namespace FV
open DC
section
variable {α : Type}
def A2 (f : α → α → Nat) : List α → Nat
  | [] => 0
  | x :: r => S r (f x) + A2 f r
def A3 (f : α → α → α → Nat) : List α → Nat
  | [] => 0
  | x :: r => A2 (f x) r + A3 f r
theorem S_perm {xs ys : List α} (h : xs.Perm ys) (f : α → Nat) : S xs f = S ys f := by
  induction h with
  | nil => rfl
  | cons x _ ih => rw [S_cons, S_cons, ih]
  | swap x y l => rw [S_cons, S_cons, S_cons, S_cons]; omega
  | trans _ _ a b => exact a.trans b
theorem A2_perm {xs ys : List α} (h : xs.Perm ys) {f : α → α → Nat} (hf : ∀ a b, f a b = f b a) : A2 f xs = A2 f ys := by
  induction h with
  | nil => rfl
  | cons x h ih => rw [A2, A2, ih, S_perm h]
  | swap x y l => rw [A2, A2, A2, A2, S_cons, S_cons, hf x y]; omega
  | trans _ _ a b => exact a.trans b
theorem A3_perm {xs ys : List α} (h : xs.Perm ys) {f : α → α → α → Nat} (h1 : ∀ a b c, f a b c = f b a c) (h2 : ∀ a b c, f a b c = f a c b) : A3 f xs = A3 f ys := by
  induction h with
  | nil => rfl
  | cons x h ih => rw [A3, A3, ih, A2_perm h (h2 x)]
  | swap x y l =>
    rw [A3, A3, A3, A3, A2, A2, show f x y = f y x from funext fun c => h1 x y c]
    omega
  | trans _ _ a b => exact a.trans b
variable [DecidableEq α]
/-- d lies within the triangle of a, b, c -/
def wi (g : α → α → α → Bool) (a b c d : α) : Bool := (g a b d == g b c d) && (g b c d == g c a d)
def wo (g : α → α → α → Bool) (d a b c : α) : Nat := if (a ≠ b ∧ a ≠ c ∧ b ≠ c) ∧ (d ≠ a ∧ d ≠ b ∧ d ≠ c) ∧ wi g a b c d = true then 1 else 0
/-- the pairs of a triangle and a point within, and the points that are within one -/
def PC (g : α → α → α → Bool) (xs : List α) : Nat := S xs fun d => A3 (wo g d) xs
def HC (g : α → α → α → Bool) (xs : List α) : Nat := S xs fun d => if A3 (wo g d) xs = 0 then 0 else 1
/-- turns change with an exchange, not with a round -/
structure Tn (g : α → α → α → Bool) (xs : List α) : Prop where
  l1 : ∀ p q, g p q p = false
  l2 : ∀ p q, g p q q = false
  cy : ∀ p q r, g q r p = g p q r
  sw : ∀ p q r, p ∈ xs → q ∈ xs → r ∈ xs → p ≠ q → r ≠ p → r ≠ q → g q p r = !g p q r
variable {g : α → α → α → Bool} {xs ys : List α}
theorem wo_1 (t : Tn g xs) {d a b c : α} (hd : d ∈ xs) (ha : a ∈ xs) (hb : b ∈ xs) (hc : c ∈ xs) : wo g d a b c = wo g d b a c := by
  unfold wo
  by_cases h : (a ≠ b ∧ a ≠ c ∧ b ≠ c) ∧ (d ≠ a ∧ d ≠ b ∧ d ≠ c)
  · obtain ⟨⟨h1, h2, h3⟩, h4, h5, h6⟩ := h
    have e : wi g b a c d = wi g a b c d := by
      unfold wi
      rw [t.sw a b d ha hb hd h1 h4 h5, t.sw c a d hc ha hd (fun z => h2 z.symm) h6 h4, t.sw b c d hb hc hd h3 h5 h6]
      cases g a b d <;> cases g b c d <;> cases g c a d <;> rfl
    have h1' : b ≠ a := fun z => h1 z.symm
    simp [h1, h1', h2, h3, h4, h5, h6, e]
  · have h' : ¬ ((b ≠ a ∧ b ≠ c ∧ a ≠ c) ∧ (d ≠ b ∧ d ≠ a ∧ d ≠ c)) := fun ⟨⟨x1, x2, x3⟩, x4, x5, x6⟩ => h ⟨⟨fun z => x1 z.symm, x3, x2⟩, x5, x4, x6⟩
    rw [if_neg fun z => h ⟨z.1, z.2.1⟩, if_neg fun z => h' ⟨z.1, z.2.1⟩]
theorem wo_2 (t : Tn g xs) {d a b c : α} (hd : d ∈ xs) (ha : a ∈ xs) (hb : b ∈ xs) (hc : c ∈ xs) : wo g d a b c = wo g d a c b := by
  unfold wo
  by_cases h : (a ≠ b ∧ a ≠ c ∧ b ≠ c) ∧ (d ≠ a ∧ d ≠ b ∧ d ≠ c)
  · obtain ⟨⟨h1, h2, h3⟩, h4, h5, h6⟩ := h
    have e : wi g a c b d = wi g a b c d := by
      unfold wi
      rw [t.sw c a d hc ha hd (fun z => h2 z.symm) h6 h4, t.sw b c d hb hc hd h3 h5 h6, t.sw a b d ha hb hd h1 h4 h5]
      cases g a b d <;> cases g b c d <;> cases g c a d <;> rfl
    have h3' : c ≠ b := fun z => h3 z.symm
    simp [h1, h2, h3, h3', h4, h5, h6, e]
  · have h' : ¬ ((a ≠ c ∧ a ≠ b ∧ c ≠ b) ∧ (d ≠ a ∧ d ≠ c ∧ d ≠ b)) := fun ⟨⟨x1, x2, x3⟩, x4, x5, x6⟩ => h ⟨⟨x2, x1, fun z => x3 z.symm⟩, x4, x6, x5⟩
    rw [if_neg fun z => h ⟨z.1, z.2.1⟩, if_neg fun z => h' ⟨z.1, z.2.1⟩]
/-- sums that look at members alone -/
theorem A2_congr {f f' : α → α → Nat} : ∀ {l : List α}, (∀ a ∈ l, ∀ b ∈ l, f a b = f' a b) → A2 f l = A2 f' l
  | [], _ => rfl
  | x :: r, h => by
    rw [A2, A2, A2_congr fun a ha b hb => h a (List.mem_cons_of_mem _ ha) b (List.mem_cons_of_mem _ hb), S_congr fun b hb => h x List.mem_cons_self b (List.mem_cons_of_mem _ hb)]
theorem A3_congr {f f' : α → α → α → Nat} : ∀ {l : List α}, (∀ a ∈ l, ∀ b ∈ l, ∀ c ∈ l, f a b c = f' a b c) → A3 f l = A3 f' l
  | [], _ => rfl
  | x :: r, h => by
    rw [A3, A3, A3_congr fun a ha b hb c hc => h a (List.mem_cons_of_mem _ ha) b (List.mem_cons_of_mem _ hb) c (List.mem_cons_of_mem _ hc), A2_congr fun b hb c hc => h x List.mem_cons_self b (List.mem_cons_of_mem _ hb) c (List.mem_cons_of_mem _ hc)]
theorem wo_perm (t : Tn g xs) (h : xs.Perm ys) {d : α} (hd : d ∈ xs) : A3 (wo g d) xs = A3 (wo g d) ys := by
  let f : α → α → α → Nat := fun a b c => if a ∈ xs ∧ b ∈ xs ∧ c ∈ xs then wo g d a b c else 0
  have e1 : A3 (wo g d) xs = A3 f xs := A3_congr fun a ha b hb c hc => (if_pos ⟨ha, hb, hc⟩).symm
  have e2 : A3 (wo g d) ys = A3 f ys := A3_congr fun a ha b hb c hc => (if_pos ⟨h.mem_iff.mpr ha, h.mem_iff.mpr hb, h.mem_iff.mpr hc⟩).symm
  rw [e1, e2]
  refine A3_perm h (fun a b c => ?_) fun a b c => ?_
  · by_cases m : a ∈ xs ∧ b ∈ xs ∧ c ∈ xs
    · have m2 : b ∈ xs ∧ a ∈ xs ∧ c ∈ xs := ⟨m.2.1, m.1, m.2.2⟩
      show (if _ then _ else _) = (if _ then _ else _)
      rw [if_pos m, if_pos m2, wo_1 t hd m.1 m.2.1 m.2.2]
    · have m2 : ¬ (b ∈ xs ∧ a ∈ xs ∧ c ∈ xs) := fun z => m ⟨z.2.1, z.1, z.2.2⟩
      show (if _ then _ else _) = (if _ then _ else _)
      rw [if_neg m, if_neg m2]
  · by_cases m : a ∈ xs ∧ b ∈ xs ∧ c ∈ xs
    · have m2 : a ∈ xs ∧ c ∈ xs ∧ b ∈ xs := ⟨m.1, m.2.2, m.2.1⟩
      show (if _ then _ else _) = (if _ then _ else _)
      rw [if_pos m, if_pos m2, wo_2 t hd m.1 m.2.1 m.2.2]
    · have m2 : ¬ (a ∈ xs ∧ c ∈ xs ∧ b ∈ xs) := fun z => m ⟨z.1, z.2.2, z.2.1⟩
      show (if _ then _ else _) = (if _ then _ else _)
      rw [if_neg m, if_neg m2]
theorem PC_perm (t : Tn g xs) (h : xs.Perm ys) : PC g xs = PC g ys := by
  unfold PC
  rw [S_congr fun d hd => wo_perm t h hd, S_perm h]
theorem HC_perm (t : Tn g xs) (h : xs.Perm ys) : HC g xs = HC g ys := by
  unfold HC
  rw [S_congr fun d hd => by rw [wo_perm t h hd], S_perm h]
theorem T_perm (h : xs.Perm ys) (j : Nat) : T xs g j = T ys g j := by
  unfold T
  rw [S_perm h]
  refine S_congr fun p _ => ?_
  rw [S_perm h]
  refine S_congr fun q _ => ?_
  rw [show lf xs g p q = lf ys g p q from S_perm h _]
end
def cons (s012 s013 s014 s023 s024 s034 s123 s124 s134 s234 : Bool) : Bool := !(((s123 && !s023 && s013 && !s012) || (!(s123) && !(!s023) && !(s013) && !(!s012)))) && !(((s124 && !s024 && s014 && !s012) || (!(s124) && !(!s024) && !(s014) && !(!s012)))) && !(((s134 && !s034 && s014 && !s013) || (!(s134) && !(!s034) && !(s014) && !(!s013)))) && !(((s234 && !s034 && s024 && !s023) || (!(s234) && !(!s034) && !(s024) && !(!s023)))) && !(((s234 && !s134 && s124 && !s123) || (!(s234) && !(!s134) && !(s124) && !(!s123)))) && !(((((s012) == (s034)) && !((s013) == (s024)) && ((s014) == (s023))) || (!(((s012) == (s034))) && !(!((s013) == (s024))) && !(((s014) == (s023)))))) && !(((((!s012) == (s134)) && !((!s013) == (s124)) && ((!s014) == (s123))) || (!(((!s012) == (s134))) && !(!((!s013) == (s124))) && !(((!s014) == (s123)))))) && !(((((s012) == (s234)) && !((!s023) == (!s124)) && ((!s024) == (!s123))) || (!(((s012) == (s234))) && !(!((!s023) == (!s124))) && !(((!s024) == (!s123)))))) && !(((((s013) == (!s234)) && !((s023) == (!s134)) && ((!s034) == (s123))) || (!(((s013) == (!s234))) && !(!((s023) == (!s134))) && !(((!s034) == (s123)))))) && !(((((s014) == (s234)) && !((s024) == (s134)) && ((s034) == (s124))) || (!(((s014) == (s234))) && !(!((s024) == (s134))) && !(((s034) == (s124))))))
def inn0 (s012 s013 s014 s023 s024 s034 s123 s124 s134 s234 : Bool) : Nat := (bif ((((s012) == (s023)) && ((s023) == (!s013)))) then 1 else 0) + (bif ((((s012) == (s024)) && ((s024) == (!s014)))) then 1 else 0) + (bif ((((s013) == (s034)) && ((s034) == (!s014)))) then 1 else 0) + (bif ((((s023) == (s034)) && ((s034) == (!s024)))) then 1 else 0)
def inn1 (s012 s013 s014 s023 s024 s034 s123 s124 s134 s234 : Bool) : Nat := (bif ((((!s012) == (s123)) && ((s123) == (s013)))) then 1 else 0) + (bif ((((!s012) == (s124)) && ((s124) == (s014)))) then 1 else 0) + (bif ((((!s013) == (s134)) && ((s134) == (s014)))) then 1 else 0) + (bif ((((s123) == (s134)) && ((s134) == (!s124)))) then 1 else 0)
def inn2 (s012 s013 s014 s023 s024 s034 s123 s124 s134 s234 : Bool) : Nat := (bif ((((s012) == (!s123)) && ((!s123) == (s023)))) then 1 else 0) + (bif ((((s012) == (!s124)) && ((!s124) == (s024)))) then 1 else 0) + (bif ((((!s023) == (s234)) && ((s234) == (s024)))) then 1 else 0) + (bif ((((!s123) == (s234)) && ((s234) == (s124)))) then 1 else 0)
def inn3 (s012 s013 s014 s023 s024 s034 s123 s124 s134 s234 : Bool) : Nat := (bif ((((s013) == (s123)) && ((s123) == (!s023)))) then 1 else 0) + (bif ((((s013) == (!s134)) && ((!s134) == (s034)))) then 1 else 0) + (bif ((((s023) == (!s234)) && ((!s234) == (s034)))) then 1 else 0) + (bif ((((s123) == (!s234)) && ((!s234) == (s134)))) then 1 else 0)
def inn4 (s012 s013 s014 s023 s024 s034 s123 s124 s134 s234 : Bool) : Nat := (bif ((((s014) == (s124)) && ((s124) == (!s024)))) then 1 else 0) + (bif ((((s014) == (s134)) && ((s134) == (!s034)))) then 1 else 0) + (bif ((((s024) == (s234)) && ((s234) == (!s034)))) then 1 else 0) + (bif ((((s124) == (s234)) && ((s234) == (!s134)))) then 1 else 0)
def hul (s012 s013 s014 s023 s024 s034 s123 s124 s134 s234 : Bool) : Nat := (bif (s012) || (s013) || (s014) then 0 else 1) + (bif (!s012) || (s023) || (s024) then 0 else 1) + (bif (!s013) || (!s023) || (s034) then 0 else 1) + (bif (!s014) || (!s024) || (!s034) then 0 else 1) + (bif (!s012) || (!s013) || (!s014) then 0 else 1) + (bif (s012) || (s123) || (s124) then 0 else 1) + (bif (s013) || (!s123) || (s134) then 0 else 1) + (bif (s014) || (!s124) || (!s134) then 0 else 1) + (bif (s012) || (!s023) || (!s024) then 0 else 1) + (bif (!s012) || (!s123) || (!s124) then 0 else 1) + (bif (s023) || (s123) || (s234) then 0 else 1) + (bif (s024) || (s124) || (!s234) then 0 else 1) + (bif (s013) || (s023) || (!s034) then 0 else 1) + (bif (!s013) || (s123) || (!s134) then 0 else 1) + (bif (!s023) || (!s123) || (!s234) then 0 else 1) + (bif (s034) || (s134) || (s234) then 0 else 1) + (bif (s014) || (s024) || (s034) then 0 else 1) + (bif (!s014) || (s124) || (s134) then 0 else 1) + (bif (!s024) || (!s124) || (s234) then 0 else 1) + (bif (!s034) || (!s134) || (!s234) then 0 else 1)
theorem five_dec : ∀ s012 s013 s014 s023 s024 s034 s123 s124 s134 s234 : Bool, cons s012 s013 s014 s023 s024 s034 s123 s124 s134 s234 = true → (inn0 s012 s013 s014 s023 s024 s034 s123 s124 s134 s234 + inn1 s012 s013 s014 s023 s024 s034 s123 s124 s134 s234 + inn2 s012 s013 s014 s023 s024 s034 s123 s124 s134 s234 + inn3 s012 s013 s014 s023 s024 s034 s123 s124 s134 s234 + inn4 s012 s013 s014 s023 s024 s034 s123 s124 s134 s234 = 2 * ((if inn0 s012 s013 s014 s023 s024 s034 s123 s124 s134 s234 = 0 then 0 else 1) + (if inn1 s012 s013 s014 s023 s024 s034 s123 s124 s134 s234 = 0 then 0 else 1) + (if inn2 s012 s013 s014 s023 s024 s034 s123 s124 s134 s234 = 0 then 0 else 1) + (if inn3 s012 s013 s014 s023 s024 s034 s123 s124 s134 s234 = 0 then 0 else 1) + (if inn4 s012 s013 s014 s023 s024 s034 s123 s124 s134 s234 = 0 then 0 else 1)) ∧ hul s012 s013 s014 s023 s024 s034 s123 s124 s134 s234 + ((if inn0 s012 s013 s014 s023 s024 s034 s123 s124 s134 s234 = 0 then 0 else 1) + (if inn1 s012 s013 s014 s023 s024 s034 s123 s124 s134 s234 = 0 then 0 else 1) + (if inn2 s012 s013 s014 s023 s024 s034 s123 s124 s134 s234 = 0 then 0 else 1) + (if inn3 s012 s013 s014 s023 s024 s034 s123 s124 s134 s234 = 0 then 0 else 1) + (if inn4 s012 s013 s014 s023 s024 s034 s123 s124 s134 s234 = 0 then 0 else 1)) = 5 ∧ ((if inn0 s012 s013 s014 s023 s024 s034 s123 s124 s134 s234 = 0 then 0 else 1) + (if inn1 s012 s013 s014 s023 s024 s034 s123 s124 s134 s234 = 0 then 0 else 1) + (if inn2 s012 s013 s014 s023 s024 s034 s123 s124 s134 s234 = 0 then 0 else 1) + (if inn3 s012 s013 s014 s023 s024 s034 s123 s124 s134 s234 = 0 then 0 else 1) + (if inn4 s012 s013 s014 s023 s024 s034 s123 s124 s134 s234 = 0 then 0 else 1)) ≤ 2) := by decide +kernel
section
variable {α : Type} [DecidableEq α] {g : α → α → α → Bool} {q0 q1 q2 q3 q4 : α}
theorem five (t : Tn g [q0, q1, q2, q3, q4]) (nd : [q0, q1, q2, q3, q4].Nodup) (hc : cons (g q0 q1 q2) (g q0 q1 q3) (g q0 q1 q4) (g q0 q2 q3) (g q0 q2 q4) (g q0 q3 q4) (g q1 q2 q3) (g q1 q2 q4) (g q1 q3 q4) (g q2 q3 q4) = true) : PC g [q0, q1, q2, q3, q4] = 2 * HC g [q0, q1, q2, q3, q4] ∧ T [q0, q1, q2, q3, q4] g 0 + HC g [q0, q1, q2, q3, q4] = 5 ∧ HC g [q0, q1, q2, q3, q4] ≤ 2 := by
  have ne := List.pairwise_iff_getElem.mp (List.nodup_iff_pairwise_ne.mp nd)
  have n01 : q0 ≠ q1 := ne 0 1 (by simp) (by simp) (by decide)
  have n10 : q1 ≠ q0 := fun z => n01 z.symm
  have n02 : q0 ≠ q2 := ne 0 2 (by simp) (by simp) (by decide)
  have n20 : q2 ≠ q0 := fun z => n02 z.symm
  have n03 : q0 ≠ q3 := ne 0 3 (by simp) (by simp) (by decide)
  have n30 : q3 ≠ q0 := fun z => n03 z.symm
  have n04 : q0 ≠ q4 := ne 0 4 (by simp) (by simp) (by decide)
  have n40 : q4 ≠ q0 := fun z => n04 z.symm
  have n12 : q1 ≠ q2 := ne 1 2 (by simp) (by simp) (by decide)
  have n21 : q2 ≠ q1 := fun z => n12 z.symm
  have n13 : q1 ≠ q3 := ne 1 3 (by simp) (by simp) (by decide)
  have n31 : q3 ≠ q1 := fun z => n13 z.symm
  have n14 : q1 ≠ q4 := ne 1 4 (by simp) (by simp) (by decide)
  have n41 : q4 ≠ q1 := fun z => n14 z.symm
  have n23 : q2 ≠ q3 := ne 2 3 (by simp) (by simp) (by decide)
  have n32 : q3 ≠ q2 := fun z => n23 z.symm
  have n24 : q2 ≠ q4 := ne 2 4 (by simp) (by simp) (by decide)
  have n42 : q4 ≠ q2 := fun z => n24 z.symm
  have n34 : q3 ≠ q4 := ne 3 4 (by simp) (by simp) (by decide)
  have n43 : q4 ≠ q3 := fun z => n34 z.symm
  have m0 : q0 ∈ [q0, q1, q2, q3, q4] := by simp
  have m1 : q1 ∈ [q0, q1, q2, q3, q4] := by simp
  have m2 : q2 ∈ [q0, q1, q2, q3, q4] := by simp
  have m3 : q3 ∈ [q0, q1, q2, q3, q4] := by simp
  have m4 : q4 ∈ [q0, q1, q2, q3, q4] := by simp
  have f120 : g q1 q2 q0 = g q0 q1 q2 := t.cy q0 q1 q2
  have f201 : g q2 q0 q1 = g q0 q1 q2 := (t.cy q1 q2 q0).trans (t.cy q0 q1 q2)
  have f102 : g q1 q0 q2 = !g q0 q1 q2 := t.sw q0 q1 q2 m0 m1 m2 n01 n20 n21
  have f021 : g q0 q2 q1 = !g q0 q1 q2 := (t.cy q1 q0 q2).trans f102
  have f210 : g q2 q1 q0 = !g q0 q1 q2 := (t.cy q0 q2 q1).trans f021
  have f130 : g q1 q3 q0 = g q0 q1 q3 := t.cy q0 q1 q3
  have f301 : g q3 q0 q1 = g q0 q1 q3 := (t.cy q1 q3 q0).trans (t.cy q0 q1 q3)
  have f103 : g q1 q0 q3 = !g q0 q1 q3 := t.sw q0 q1 q3 m0 m1 m3 n01 n30 n31
  have f031 : g q0 q3 q1 = !g q0 q1 q3 := (t.cy q1 q0 q3).trans f103
  have f310 : g q3 q1 q0 = !g q0 q1 q3 := (t.cy q0 q3 q1).trans f031
  have f140 : g q1 q4 q0 = g q0 q1 q4 := t.cy q0 q1 q4
  have f401 : g q4 q0 q1 = g q0 q1 q4 := (t.cy q1 q4 q0).trans (t.cy q0 q1 q4)
  have f104 : g q1 q0 q4 = !g q0 q1 q4 := t.sw q0 q1 q4 m0 m1 m4 n01 n40 n41
  have f041 : g q0 q4 q1 = !g q0 q1 q4 := (t.cy q1 q0 q4).trans f104
  have f410 : g q4 q1 q0 = !g q0 q1 q4 := (t.cy q0 q4 q1).trans f041
  have f230 : g q2 q3 q0 = g q0 q2 q3 := t.cy q0 q2 q3
  have f302 : g q3 q0 q2 = g q0 q2 q3 := (t.cy q2 q3 q0).trans (t.cy q0 q2 q3)
  have f203 : g q2 q0 q3 = !g q0 q2 q3 := t.sw q0 q2 q3 m0 m2 m3 n02 n30 n32
  have f032 : g q0 q3 q2 = !g q0 q2 q3 := (t.cy q2 q0 q3).trans f203
  have f320 : g q3 q2 q0 = !g q0 q2 q3 := (t.cy q0 q3 q2).trans f032
  have f240 : g q2 q4 q0 = g q0 q2 q4 := t.cy q0 q2 q4
  have f402 : g q4 q0 q2 = g q0 q2 q4 := (t.cy q2 q4 q0).trans (t.cy q0 q2 q4)
  have f204 : g q2 q0 q4 = !g q0 q2 q4 := t.sw q0 q2 q4 m0 m2 m4 n02 n40 n42
  have f042 : g q0 q4 q2 = !g q0 q2 q4 := (t.cy q2 q0 q4).trans f204
  have f420 : g q4 q2 q0 = !g q0 q2 q4 := (t.cy q0 q4 q2).trans f042
  have f340 : g q3 q4 q0 = g q0 q3 q4 := t.cy q0 q3 q4
  have f403 : g q4 q0 q3 = g q0 q3 q4 := (t.cy q3 q4 q0).trans (t.cy q0 q3 q4)
  have f304 : g q3 q0 q4 = !g q0 q3 q4 := t.sw q0 q3 q4 m0 m3 m4 n03 n40 n43
  have f043 : g q0 q4 q3 = !g q0 q3 q4 := (t.cy q3 q0 q4).trans f304
  have f430 : g q4 q3 q0 = !g q0 q3 q4 := (t.cy q0 q4 q3).trans f043
  have f231 : g q2 q3 q1 = g q1 q2 q3 := t.cy q1 q2 q3
  have f312 : g q3 q1 q2 = g q1 q2 q3 := (t.cy q2 q3 q1).trans (t.cy q1 q2 q3)
  have f213 : g q2 q1 q3 = !g q1 q2 q3 := t.sw q1 q2 q3 m1 m2 m3 n12 n31 n32
  have f132 : g q1 q3 q2 = !g q1 q2 q3 := (t.cy q2 q1 q3).trans f213
  have f321 : g q3 q2 q1 = !g q1 q2 q3 := (t.cy q1 q3 q2).trans f132
  have f241 : g q2 q4 q1 = g q1 q2 q4 := t.cy q1 q2 q4
  have f412 : g q4 q1 q2 = g q1 q2 q4 := (t.cy q2 q4 q1).trans (t.cy q1 q2 q4)
  have f214 : g q2 q1 q4 = !g q1 q2 q4 := t.sw q1 q2 q4 m1 m2 m4 n12 n41 n42
  have f142 : g q1 q4 q2 = !g q1 q2 q4 := (t.cy q2 q1 q4).trans f214
  have f421 : g q4 q2 q1 = !g q1 q2 q4 := (t.cy q1 q4 q2).trans f142
  have f341 : g q3 q4 q1 = g q1 q3 q4 := t.cy q1 q3 q4
  have f413 : g q4 q1 q3 = g q1 q3 q4 := (t.cy q3 q4 q1).trans (t.cy q1 q3 q4)
  have f314 : g q3 q1 q4 = !g q1 q3 q4 := t.sw q1 q3 q4 m1 m3 m4 n13 n41 n43
  have f143 : g q1 q4 q3 = !g q1 q3 q4 := (t.cy q3 q1 q4).trans f314
  have f431 : g q4 q3 q1 = !g q1 q3 q4 := (t.cy q1 q4 q3).trans f143
  have f342 : g q3 q4 q2 = g q2 q3 q4 := t.cy q2 q3 q4
  have f423 : g q4 q2 q3 = g q2 q3 q4 := (t.cy q3 q4 q2).trans (t.cy q2 q3 q4)
  have f324 : g q3 q2 q4 = !g q2 q3 q4 := t.sw q2 q3 q4 m2 m3 m4 n23 n42 n43
  have f243 : g q2 q4 q3 = !g q2 q3 q4 := (t.cy q3 q2 q4).trans f324
  have f432 : g q4 q3 q2 = !g q2 q3 q4 := (t.cy q2 q4 q3).trans f243
  have key := five_dec (g q0 q1 q2) (g q0 q1 q3) (g q0 q1 q4) (g q0 q2 q3) (g q0 q2 q4) (g q0 q3 q4) (g q1 q2 q3) (g q1 q2 q4) (g q1 q3 q4) (g q2 q3 q4) hc
  have e0 : A3 (wo g q0) [q0, q1, q2, q3, q4] = inn0 (g q0 q1 q2) (g q0 q1 q3) (g q0 q1 q4) (g q0 q2 q3) (g q0 q2 q4) (g q0 q3 q4) (g q1 q2 q3) (g q1 q2 q4) (g q1 q3 q4) (g q2 q3 q4) := by
    unfold inn0
    simp only [A3, A2, S, List.map_cons, List.map_nil, List.sum_cons, List.sum_nil, wo, wi, n01, n02, n03, n04, n10, n12, n13, n14, n20, n21, n23, n24, n30, n31, n32, n34, n40, n41, n42, n43, ne_eq, not_true_eq_false, not_false_eq_true, and_true, true_and, and_false, false_and, if_false, f120, f201, f102, f021, f210, f130, f301, f103, f031, f310, f140, f401, f104, f041, f410, f230, f302, f203, f032, f320, f240, f402, f204, f042, f420, f340, f403, f304, f043, f430, f231, f312, f213, f132, f321, f241, f412, f214, f142, f421, f341, f413, f314, f143, f431, f342, f423, f324, f243, f432, cond_eq_ite, Nat.add_zero, Nat.zero_add]
    try omega
  have e1 : A3 (wo g q1) [q0, q1, q2, q3, q4] = inn1 (g q0 q1 q2) (g q0 q1 q3) (g q0 q1 q4) (g q0 q2 q3) (g q0 q2 q4) (g q0 q3 q4) (g q1 q2 q3) (g q1 q2 q4) (g q1 q3 q4) (g q2 q3 q4) := by
    unfold inn1
    simp only [A3, A2, S, List.map_cons, List.map_nil, List.sum_cons, List.sum_nil, wo, wi, n01, n02, n03, n04, n10, n12, n13, n14, n20, n21, n23, n24, n30, n31, n32, n34, n40, n41, n42, n43, ne_eq, not_true_eq_false, not_false_eq_true, and_true, true_and, and_false, false_and, if_false, f120, f201, f102, f021, f210, f130, f301, f103, f031, f310, f140, f401, f104, f041, f410, f230, f302, f203, f032, f320, f240, f402, f204, f042, f420, f340, f403, f304, f043, f430, f231, f312, f213, f132, f321, f241, f412, f214, f142, f421, f341, f413, f314, f143, f431, f342, f423, f324, f243, f432, cond_eq_ite, Nat.add_zero, Nat.zero_add]
    try omega
  have e2 : A3 (wo g q2) [q0, q1, q2, q3, q4] = inn2 (g q0 q1 q2) (g q0 q1 q3) (g q0 q1 q4) (g q0 q2 q3) (g q0 q2 q4) (g q0 q3 q4) (g q1 q2 q3) (g q1 q2 q4) (g q1 q3 q4) (g q2 q3 q4) := by
    unfold inn2
    simp only [A3, A2, S, List.map_cons, List.map_nil, List.sum_cons, List.sum_nil, wo, wi, n01, n02, n03, n04, n10, n12, n13, n14, n20, n21, n23, n24, n30, n31, n32, n34, n40, n41, n42, n43, ne_eq, not_true_eq_false, not_false_eq_true, and_true, true_and, and_false, false_and, if_false, f120, f201, f102, f021, f210, f130, f301, f103, f031, f310, f140, f401, f104, f041, f410, f230, f302, f203, f032, f320, f240, f402, f204, f042, f420, f340, f403, f304, f043, f430, f231, f312, f213, f132, f321, f241, f412, f214, f142, f421, f341, f413, f314, f143, f431, f342, f423, f324, f243, f432, cond_eq_ite, Nat.add_zero, Nat.zero_add]
    try omega
  have e3 : A3 (wo g q3) [q0, q1, q2, q3, q4] = inn3 (g q0 q1 q2) (g q0 q1 q3) (g q0 q1 q4) (g q0 q2 q3) (g q0 q2 q4) (g q0 q3 q4) (g q1 q2 q3) (g q1 q2 q4) (g q1 q3 q4) (g q2 q3 q4) := by
    unfold inn3
    simp only [A3, A2, S, List.map_cons, List.map_nil, List.sum_cons, List.sum_nil, wo, wi, n01, n02, n03, n04, n10, n12, n13, n14, n20, n21, n23, n24, n30, n31, n32, n34, n40, n41, n42, n43, ne_eq, not_true_eq_false, not_false_eq_true, and_true, true_and, and_false, false_and, if_false, f120, f201, f102, f021, f210, f130, f301, f103, f031, f310, f140, f401, f104, f041, f410, f230, f302, f203, f032, f320, f240, f402, f204, f042, f420, f340, f403, f304, f043, f430, f231, f312, f213, f132, f321, f241, f412, f214, f142, f421, f341, f413, f314, f143, f431, f342, f423, f324, f243, f432, cond_eq_ite, Nat.add_zero, Nat.zero_add]
    try omega
  have e4 : A3 (wo g q4) [q0, q1, q2, q3, q4] = inn4 (g q0 q1 q2) (g q0 q1 q3) (g q0 q1 q4) (g q0 q2 q3) (g q0 q2 q4) (g q0 q3 q4) (g q1 q2 q3) (g q1 q2 q4) (g q1 q3 q4) (g q2 q3 q4) := by
    unfold inn4
    simp only [A3, A2, S, List.map_cons, List.map_nil, List.sum_cons, List.sum_nil, wo, wi, n01, n02, n03, n04, n10, n12, n13, n14, n20, n21, n23, n24, n30, n31, n32, n34, n40, n41, n42, n43, ne_eq, not_true_eq_false, not_false_eq_true, and_true, true_and, and_false, false_and, if_false, f120, f201, f102, f021, f210, f130, f301, f103, f031, f310, f140, f401, f104, f041, f410, f230, f302, f203, f032, f320, f240, f402, f204, f042, f420, f340, f403, f304, f043, f430, f231, f312, f213, f132, f321, f241, f412, f214, f142, f421, f341, f413, f314, f143, f431, f342, f423, f324, f243, f432, cond_eq_ite, Nat.add_zero, Nat.zero_add]
    try omega
  have eT : T [q0, q1, q2, q3, q4] g 0 = hul (g q0 q1 q2) (g q0 q1 q3) (g q0 q1 q4) (g q0 q2 q3) (g q0 q2 q4) (g q0 q3 q4) (g q1 q2 q3) (g q1 q2 q4) (g q1 q3 q4) (g q2 q3 q4) := by
    unfold T lf
    simp only [S, List.map_cons, List.map_nil, List.sum_cons, List.sum_nil, ne_eq, not_true_eq_false, not_false_eq_true, true_and, false_and, if_false, t.l1, t.l2, Bool.false_eq_true, n01, n02, n03, n04, n10, n12, n13, n14, n20, n21, n23, n24, n30, n31, n32, n34, n40, n41, n42, n43, f120, f201, f102, f021, f210, f130, f301, f103, f031, f310, f140, f401, f104, f041, f410, f230, f302, f203, f032, f320, f240, f402, f204, f042, f420, f340, f403, f304, f043, f430, f231, f312, f213, f132, f321, f241, f412, f214, f142, f421, f341, f413, f314, f143, f431, f342, f423, f324, f243, f432]
    generalize g q0 q1 q2 = s012
    generalize g q0 q1 q3 = s013
    generalize g q0 q1 q4 = s014
    generalize g q0 q2 q3 = s023
    generalize g q0 q2 q4 = s024
    generalize g q0 q3 q4 = s034
    generalize g q1 q2 q3 = s123
    generalize g q1 q2 q4 = s124
    generalize g q1 q3 q4 = s134
    generalize g q2 q3 q4 = s234
    revert s012 s013 s014 s023 s024 s034 s123 s124 s134 s234
    decide +kernel
  have eP : PC g [q0, q1, q2, q3, q4] = inn0 (g q0 q1 q2) (g q0 q1 q3) (g q0 q1 q4) (g q0 q2 q3) (g q0 q2 q4) (g q0 q3 q4) (g q1 q2 q3) (g q1 q2 q4) (g q1 q3 q4) (g q2 q3 q4) + inn1 (g q0 q1 q2) (g q0 q1 q3) (g q0 q1 q4) (g q0 q2 q3) (g q0 q2 q4) (g q0 q3 q4) (g q1 q2 q3) (g q1 q2 q4) (g q1 q3 q4) (g q2 q3 q4) + inn2 (g q0 q1 q2) (g q0 q1 q3) (g q0 q1 q4) (g q0 q2 q3) (g q0 q2 q4) (g q0 q3 q4) (g q1 q2 q3) (g q1 q2 q4) (g q1 q3 q4) (g q2 q3 q4) + inn3 (g q0 q1 q2) (g q0 q1 q3) (g q0 q1 q4) (g q0 q2 q3) (g q0 q2 q4) (g q0 q3 q4) (g q1 q2 q3) (g q1 q2 q4) (g q1 q3 q4) (g q2 q3 q4) + inn4 (g q0 q1 q2) (g q0 q1 q3) (g q0 q1 q4) (g q0 q2 q3) (g q0 q2 q4) (g q0 q3 q4) (g q1 q2 q3) (g q1 q2 q4) (g q1 q3 q4) (g q2 q3 q4) := by
    unfold PC
    simp only [S, List.map_cons, List.map_nil, List.sum_cons, List.sum_nil, e0, e1, e2, e3, e4]
    omega
  have eH : HC g [q0, q1, q2, q3, q4] = (if inn0 (g q0 q1 q2) (g q0 q1 q3) (g q0 q1 q4) (g q0 q2 q3) (g q0 q2 q4) (g q0 q3 q4) (g q1 q2 q3) (g q1 q2 q4) (g q1 q3 q4) (g q2 q3 q4) = 0 then 0 else 1) + (if inn1 (g q0 q1 q2) (g q0 q1 q3) (g q0 q1 q4) (g q0 q2 q3) (g q0 q2 q4) (g q0 q3 q4) (g q1 q2 q3) (g q1 q2 q4) (g q1 q3 q4) (g q2 q3 q4) = 0 then 0 else 1) + (if inn2 (g q0 q1 q2) (g q0 q1 q3) (g q0 q1 q4) (g q0 q2 q3) (g q0 q2 q4) (g q0 q3 q4) (g q1 q2 q3) (g q1 q2 q4) (g q1 q3 q4) (g q2 q3 q4) = 0 then 0 else 1) + (if inn3 (g q0 q1 q2) (g q0 q1 q3) (g q0 q1 q4) (g q0 q2 q3) (g q0 q2 q4) (g q0 q3 q4) (g q1 q2 q3) (g q1 q2 q4) (g q1 q3 q4) (g q2 q3 q4) = 0 then 0 else 1) + (if inn4 (g q0 q1 q2) (g q0 q1 q3) (g q0 q1 q4) (g q0 q2 q3) (g q0 q2 q4) (g q0 q3 q4) (g q1 q2 q3) (g q1 q2 q4) (g q1 q3 q4) (g q2 q3 q4) = 0 then 0 else 1) := by
    unfold HC
    simp only [S, List.map_cons, List.map_nil, List.sum_cons, List.sum_nil, e0, e1, e2, e3, e4]
    omega
  rw [eT, eP, eH]
  exact key
end
end FV

namespace K12
open PySem PySem.Spec PyProof.Rows L2 Evl EB
def topS (i : Nat) : Stmt := PySem.Challenge.pw_everybowl_k12_parity_of_convex_fours.main.body.getD i (.Pass ⟨0, 0, 0, 0⟩)
abbrev s_Repeated : Stmt := inClass (topS 7) 0
theorem sc_Repeated : FnScope ["self", "number"] ["self", "number"] (defScope s_Repeated) := ⟨rfl, rfl, rfl, by decide +kernel, rfl, by decide +kernel, by decide +kernel⟩
abbrev s_NoPoint : Stmt := inClass (topS 6) 0
theorem sc_NoPoint : FnScope ["self", "number"] ["self", "number"] (defScope s_NoPoint) := ⟨rfl, rfl, rfl, by decide +kernel, rfl, by decide +kernel, by decide +kernel⟩
abbrev s_TooFar : Stmt := inClass (topS 5) 0
theorem sc_TooFar : FnScope ["self", "value"] ["self", "value"] (defScope s_TooFar) := ⟨rfl, rfl, rfl, by decide +kernel, rfl, by decide +kernel, by decide +kernel⟩
abbrev s_OnLine : Stmt := inClass (topS 8) 0
theorem sc_OnLine : FnScope ["self", "numbers"] ["self", "numbers"] (defScope s_OnLine) := ⟨rfl, rfl, rfl, by decide +kernel, rfl, by decide +kernel, by decide +kernel⟩
abbrev s_WrongCount : Stmt := inClass (topS 4) 0
theorem sc_WrongCount : FnScope ["self", "count"] ["self", "count"] (defScope s_WrongCount) := ⟨rfl, rfl, rfl, by decide +kernel, rfl, by decide +kernel, by decide +kernel⟩
abbrev s__law_fives : Stmt := topS 45
abbrev N__law_fives : List Str := ["many", "fives", "mask", "numbers", "k"]
theorem sc__law_fives : FnScope N__law_fives ["many"] (defScope s__law_fives) := ⟨rfl, rfl, rfl, by decide +kernel, rfl, by decide +kernel, by decide +kernel⟩
abbrev s__law_whole : Stmt := topS 42
abbrev N__law_whole : List Str := ["thing"]
theorem sc__law_whole : FnScope N__law_whole ["thing"] (defScope s__law_whole) := ⟨rfl, rfl, rfl, by decide +kernel, rfl, by decide +kernel, by decide +kernel⟩
abbrev s_tally : Stmt := topS 32
abbrev N_tally : List Str := ["counts", "length", "entry", "j"]
theorem sc_tally : FnScope N_tally ["counts", "length"] (defScope s_tally) := ⟨rfl, rfl, rfl, by decide +kernel, rfl, by decide +kernel, by decide +kernel⟩
abbrev s_Floor___len__ : Stmt := inClass (topS 27) 5
abbrev N_Floor___len__ : List Str := ["self"]
theorem sc_Floor___len__ : FnScope N_Floor___len__ ["self"] (defScope s_Floor___len__) := ⟨rfl, rfl, rfl, by decide +kernel, rfl, by decide +kernel, by decide +kernel⟩
abbrev s_others : Stmt := topS 30
abbrev N_others : List Str := ["n", "number", "k"]
theorem sc_others : FnScope N_others ["n", "number"] (defScope s_others) := ⟨rfl, rfl, rfl, by decide +kernel, rfl, by decide +kernel, by decide +kernel⟩
abbrev s_bare_area : Stmt := topS 20
abbrev N_bare_area : List Str := ["p", "q", "r"]
theorem sc_bare_area : FnScope N_bare_area ["p", "q", "r"] (defScope s_bare_area) := ⟨rfl, rfl, rfl, by decide +kernel, rfl, by decide +kernel, by decide +kernel⟩
abbrev s_check_number : Stmt := topS 12
abbrev N_check_number : List Str := ["number", "n"]
theorem sc_check_number : FnScope N_check_number ["number", "n"] (defScope s_check_number) := ⟨rfl, rfl, rfl, by decide +kernel, rfl, by decide +kernel, by decide +kernel⟩
abbrev s_check_numbers : Stmt := topS 13
abbrev N_check_numbers : List Str := ["numbers", "n", "place", "number"]
theorem sc_check_numbers : FnScope N_check_numbers ["numbers", "n"] (defScope s_check_numbers) := ⟨rfl, rfl, rfl, by decide +kernel, rfl, by decide +kernel, by decide +kernel⟩
abbrev s_Floor_left_of : Stmt := inClass (topS 27) 12
abbrev N_Floor_left_of : List Str := ["self", "a", "b", "start", "end", "c", "point"]
theorem sc_Floor_left_of : FnScope N_Floor_left_of ["self", "a", "b"] (defScope s_Floor_left_of) := ⟨rfl, rfl, rfl, by decide +kernel, rfl, by decide +kernel, by decide +kernel⟩
abbrev s_lines_and_lefts : Stmt := topS 35
abbrev N_lines_and_lefts : List Str := ["floor", "n", "a", "b"]
theorem sc_lines_and_lefts : FnScope N_lines_and_lefts ["floor"] (defScope s_lines_and_lefts) := ⟨rfl, rfl, rfl, by decide +kernel, rfl, by decide +kernel, by decide +kernel⟩
abbrev s_line_row : Stmt := topS 34
abbrev N_line_row : List Str := ["floor", "line", "left"]
theorem sc_line_row : FnScope N_line_row ["floor"] (defScope s_line_row) := ⟨rfl, rfl, rfl, by decide +kernel, rfl, by decide +kernel, by decide +kernel⟩
abbrev s_check_range : Stmt := topS 11
abbrev N_check_range : List Str := ["value", "least", "most"]
theorem sc_check_range : FnScope N_check_range ["value", "least", "most"] (defScope s_check_range) := ⟨rfl, rfl, rfl, by decide +kernel, rfl, by decide +kernel, by decide +kernel⟩
abbrev s_choose : Stmt := topS 15
abbrev N_choose : List Str := ["n", "k"]
theorem sc_choose : FnScope N_choose ["n", "k"] (defScope s_choose) := ⟨rfl, rfl, rfl, by decide +kernel, rfl, by decide +kernel, by decide +kernel⟩
abbrev s_first_behind : Stmt := topS 17
abbrev N_first_behind : List Str := ["part"]
theorem sc_first_behind : FnScope N_first_behind ["part"] (defScope s_first_behind) := ⟨rfl, rfl, rfl, by decide +kernel, rfl, by decide +kernel, by decide +kernel⟩
abbrev s_subset_list : Stmt := topS 16
abbrev N_subset_list : List Str := ["n", "size", "found", "_", "part", "k"]
theorem sc_subset_list : FnScope N_subset_list ["n", "size"] (defScope s_subset_list) := ⟨rfl, rfl, rfl, by decide +kernel, rfl, by decide +kernel, by decide +kernel⟩
abbrev s_is_within : Stmt := topS 21
abbrev N_is_within : List Str := ["p", "q", "r", "s"]
theorem sc_is_within : FnScope N_is_within ["p", "q", "r", "s"] (defScope s_is_within) := ⟨rfl, rfl, rfl, by decide +kernel, rfl, by decide +kernel, by decide +kernel⟩
abbrev s_is_around : Stmt := topS 25
abbrev N_is_around : List Str := ["floor", "three", "number", "a", "b", "c"]
theorem sc_is_around : FnScope N_is_around ["floor", "three", "number"] (defScope s_is_around) := ⟨rfl, rfl, rfl, by decide +kernel, rfl, by decide +kernel, by decide +kernel⟩
abbrev s_inner_pairs : Stmt := topS 23
abbrev N_inner_pairs : List Str := ["floor", "n", "three", "number"]
theorem sc_inner_pairs : FnScope N_inner_pairs ["floor"] (defScope s_inner_pairs) := ⟨rfl, rfl, rfl, by decide +kernel, rfl, by decide +kernel, by decide +kernel⟩
abbrev s_convex_fours : Stmt := topS 24
abbrev N_convex_fours : List Str := ["floor"]
theorem sc_convex_fours : FnScope N_convex_fours ["floor"] (defScope s_convex_fours) := ⟨rfl, rfl, rfl, by decide +kernel, rfl, by decide +kernel, by decide +kernel⟩
abbrev s_check_turns : Stmt := topS 29
abbrev N_check_turns : List Str := ["points", "a", "b", "c"]
theorem sc_check_turns : FnScope N_check_turns ["points"] (defScope s_check_turns) := ⟨rfl, rfl, rfl, by decide +kernel, rfl, by decide +kernel, by decide +kernel⟩
abbrev s_check_point : Stmt := topS 28
abbrev N_check_point : List Str := ["point", "value"]
theorem sc_check_point : FnScope N_check_point ["point"] (defScope s_check_point) := ⟨rfl, rfl, rfl, by decide +kernel, rfl, by decide +kernel, by decide +kernel⟩
abbrev s_check_count : Stmt := topS 10
abbrev N_check_count : List Str := ["members", "least", "most"]
theorem sc_check_count : FnScope N_check_count ["members", "least", "most"] (defScope s_check_count) := ⟨rfl, rfl, rfl, by decide +kernel, rfl, by decide +kernel, by decide +kernel⟩
abbrev s_Floor___init__ : Stmt := inClass (topS 27) 3
abbrev N_Floor___init__ : List Str := ["self", "points", "point"]
theorem sc_Floor___init__ : FnScope N_Floor___init__ ["self", "points"] (defScope s_Floor___init__) := ⟨rfl, rfl, rfl, by decide +kernel, rfl, by decide +kernel, by decide +kernel⟩
abbrev s_Floor_only : Stmt := inClass (topS 27) 13
abbrev N_Floor_only : List Str := ["self", "numbers", "number"]
theorem sc_Floor_only : FnScope N_Floor_only ["self", "numbers"] (defScope s_Floor_only) := ⟨rfl, rfl, rfl, by decide +kernel, rfl, by decide +kernel, by decide +kernel⟩
abbrev s__law_five_holds : Stmt := topS 47
abbrev N__law_five_holds : List Str := ["floor", "numbers", "pairs", "held", "fours", "three", "number", "k", "part", "count", "first"]
theorem sc__law_five_holds : FnScope N__law_five_holds ["floor", "numbers", "pairs"] (defScope s__law_five_holds) := ⟨rfl, rfl, rfl, by decide +kernel, rfl, by decide +kernel, by decide +kernel⟩
abbrev s__law_order : Stmt := topS 46
abbrev N__law_order : List Str := ["c", "pool", "order", "k"]
theorem sc__law_order : FnScope N__law_order ["c"] (defScope s__law_order) := ⟨rfl, rfl, rfl, by decide +kernel, rfl, by decide +kernel, by decide +kernel⟩
abbrev s__law_cell : Stmt := topS 37
abbrev N__law_cell : List Str := ["cells", "place"]
theorem sc__law_cell : FnScope N__law_cell ["cells", "place"] (defScope s__law_cell) := ⟨rfl, rfl, rfl, by decide +kernel, rfl, by decide +kernel, by decide +kernel⟩
abbrev s__law_area : Stmt := topS 39
abbrev N__law_area : List Str := ["p", "q", "r", "first", "second", "third"]
theorem sc__law_area : FnScope N__law_area ["p", "q", "r"] (defScope s__law_area) := ⟨rfl, rfl, rfl, by decide +kernel, rfl, by decide +kernel, by decide +kernel⟩
abbrev s__law_is_within : Stmt := topS 43
abbrev N__law_is_within : List Str := ["points", "number", "three", "p", "a", "b", "c", "k", "one", "two", "last"]
theorem sc__law_is_within : FnScope N__law_is_within ["points", "number", "three"] (defScope s__law_is_within) := ⟨rfl, rfl, rfl, by decide +kernel, rfl, by decide +kernel, by decide +kernel⟩
abbrev s__law_pairs : Stmt := topS 44
abbrev N__law_pairs : List Str := ["points", "pairs", "a", "b", "c", "three", "number"]
theorem sc__law_pairs : FnScope N__law_pairs ["points"] (defScope s__law_pairs) := ⟨rfl, rfl, rfl, by decide +kernel, rfl, by decide +kernel, by decide +kernel⟩
abbrev s__law_made : Stmt := topS 41
abbrev N__law_made : List Str := ["points", "floor", "e", "alone"]
theorem sc__law_made : FnScope N__law_made ["points"] (defScope s__law_made) := ⟨rfl, rfl, rfl, by decide +kernel, rfl, by decide +kernel, by decide +kernel⟩
abbrev s__law_refusal : Stmt := topS 40
abbrev N__law_refusal : List Str := ["points", "p", "value", "a", "b", "c"]
theorem sc__law_refusal : FnScope N__law_refusal ["points"] (defScope s__law_refusal) := ⟨rfl, rfl, rfl, by decide +kernel, rfl, by decide +kernel, by decide +kernel⟩
abbrev s__law_drawn : Stmt := topS 38
abbrev N__law_drawn : List Str := ["cells", "many", "wide", "across", "up", "points", "k", "c", "x", "y"]
theorem sc__law_drawn : FnScope N__law_drawn ["cells", "many", "wide"] (defScope s__law_drawn) := ⟨rfl, rfl, rfl, by decide +kernel, rfl, by decide +kernel, by decide +kernel⟩
abbrev s_law : Stmt := topS 48
abbrev N_law : List Str := ["script", "cells", "c", "many", "points", "due", "floor", "pairs", "fours", "fives", "k", "count", "order", "five"]
theorem sc_law : FnScope N_law ["script"] (defScope s_law) := ⟨rfl, rfl, rfl, by decide +kernel, rfl, by decide +kernel, by decide +kernel⟩
/-- what the top has written -/
structure Tx (K : PySem.W.Frag) (mg : Str → Option Value) where
  a_Repeated : Addr
  i_Repeated : Addr
  fd_Repeated : FuncData
  g_Repeated : mg "Repeated" = some (.ref a_Repeated)
  X_Repeated : ErT K a_Repeated i_Repeated "number"
  F_Repeated : Fun K "__init__" "Repeated.__init__" s_Repeated i_Repeated fd_Repeated
  a_NoPoint : Addr
  i_NoPoint : Addr
  fd_NoPoint : FuncData
  g_NoPoint : mg "NoPoint" = some (.ref a_NoPoint)
  X_NoPoint : ErT K a_NoPoint i_NoPoint "number"
  F_NoPoint : Fun K "__init__" "NoPoint.__init__" s_NoPoint i_NoPoint fd_NoPoint
  a_TooFar : Addr
  i_TooFar : Addr
  fd_TooFar : FuncData
  g_TooFar : mg "TooFar" = some (.ref a_TooFar)
  X_TooFar : ErT K a_TooFar i_TooFar "value"
  F_TooFar : Fun K "__init__" "TooFar.__init__" s_TooFar i_TooFar fd_TooFar
  a_OnLine : Addr
  i_OnLine : Addr
  fd_OnLine : FuncData
  g_OnLine : mg "OnLine" = some (.ref a_OnLine)
  X_OnLine : ErT K a_OnLine i_OnLine "numbers"
  F_OnLine : Fun K "__init__" "OnLine.__init__" s_OnLine i_OnLine fd_OnLine
  a_WrongCount : Addr
  i_WrongCount : Addr
  fd_WrongCount : FuncData
  g_WrongCount : mg "WrongCount" = some (.ref a_WrongCount)
  X_WrongCount : ErT K a_WrongCount i_WrongCount "count"
  F_WrongCount : Fun K "__init__" "WrongCount.__init__" s_WrongCount i_WrongCount fd_WrongCount
  a_BowlError : Addr
  g_BowlError : mg "BowlError" = some (.ref a_BowlError)
  a_Floor : Addr
  mc_Floor : Value
  g_Floor : mg "Floor" = some (.ref a_Floor)
  C_Floor : Cls K a_Floor
  cr_Floor : ClX.CRead K a_Floor mc_Floor
  n_Floor_points : NoAttr K a_Floor "points"
  u_Floor_LEAST : Value
  cv_Floor_LEAST : ClX.CVal K a_Floor mc_Floor "LEAST" (.int 3) u_Floor_LEAST
  u_Floor_MOST : Value
  cv_Floor_MOST : ClX.CVal K a_Floor mc_Floor "MOST" (.int 10) u_Floor_MOST
  u_Floor_FAR : Value
  cv_Floor_FAR : ClX.CVal K a_Floor mc_Floor "FAR" (.int 1000000) u_Floor_FAR
  ca_Floor : PySem.W.findIn K (.ref a_Floor) "__class__" = some (some (.builtin "object.__class__"))
  mo_Floor : PySem.W.mroIn K a_Floor (.type "object") = some true
  ki_Floor : PySem.W.kitOne K (.ref a_Floor) (.ref a_Floor) = some true
  gn : PySem.W.specialIn K (.builtin "object.__class__") "__get__" = some (some (.builtin "getset_descriptor.__get__"))
  tkc : PySem.W.takesIn K (.builtin "object.__class__") = some true
  a__law_fives : Addr
  fd__law_fives : FuncData
  F__law_fives : Fun K "_law_fives" "_law_fives" s__law_fives a__law_fives fd__law_fives
  g__law_fives : mg "_law_fives" = some (.ref a__law_fives)
  a__law_whole : Addr
  fd__law_whole : FuncData
  F__law_whole : Fun K "_law_whole" "_law_whole" s__law_whole a__law_whole fd__law_whole
  g__law_whole : mg "_law_whole" = some (.ref a__law_whole)
  a_tally : Addr
  fd_tally : FuncData
  F_tally : Fun K "tally" "tally" s_tally a_tally fd_tally
  g_tally : mg "tally" = some (.ref a_tally)
  a_Floor___len__ : Addr
  fd_Floor___len__ : FuncData
  F_Floor___len__ : Fun K "__len__" "Floor.__len__" s_Floor___len__ a_Floor___len__ fd_Floor___len__
  m_Floor___len__ : Meth K a_Floor "__len__" a_Floor___len__
  a_others : Addr
  fd_others : FuncData
  F_others : Fun K "others" "others" s_others a_others fd_others
  g_others : mg "others" = some (.ref a_others)
  a_bare_area : Addr
  fd_bare_area : FuncData
  F_bare_area : Fun K "bare_area" "bare_area" s_bare_area a_bare_area fd_bare_area
  g_bare_area : mg "bare_area" = some (.ref a_bare_area)
  a_check_number : Addr
  fd_check_number : FuncData
  F_check_number : Fun K "check_number" "check_number" s_check_number a_check_number fd_check_number
  g_check_number : mg "check_number" = some (.ref a_check_number)
  a_check_numbers : Addr
  fd_check_numbers : FuncData
  F_check_numbers : Fun K "check_numbers" "check_numbers" s_check_numbers a_check_numbers fd_check_numbers
  g_check_numbers : mg "check_numbers" = some (.ref a_check_numbers)
  a_Floor_left_of : Addr
  fd_Floor_left_of : FuncData
  F_Floor_left_of : Fun K "left_of" "Floor.left_of" s_Floor_left_of a_Floor_left_of fd_Floor_left_of
  m_Floor_left_of : Meth K a_Floor "left_of" a_Floor_left_of
  a_lines_and_lefts : Addr
  fd_lines_and_lefts : FuncData
  F_lines_and_lefts : Fun K "lines_and_lefts" "lines_and_lefts" s_lines_and_lefts a_lines_and_lefts fd_lines_and_lefts
  g_lines_and_lefts : mg "lines_and_lefts" = some (.ref a_lines_and_lefts)
  a_line_row : Addr
  fd_line_row : FuncData
  F_line_row : Fun K "line_row" "line_row" s_line_row a_line_row fd_line_row
  g_line_row : mg "line_row" = some (.ref a_line_row)
  a_check_range : Addr
  fd_check_range : FuncData
  F_check_range : Fun K "check_range" "check_range" s_check_range a_check_range fd_check_range
  g_check_range : mg "check_range" = some (.ref a_check_range)
  a_choose : Addr
  fd_choose : FuncData
  F_choose : Fun K "choose" "choose" s_choose a_choose fd_choose
  g_choose : mg "choose" = some (.ref a_choose)
  a_first_behind : Addr
  fd_first_behind : FuncData
  F_first_behind : Fun K "first_behind" "first_behind" s_first_behind a_first_behind fd_first_behind
  g_first_behind : mg "first_behind" = some (.ref a_first_behind)
  a_subset_list : Addr
  fd_subset_list : FuncData
  F_subset_list : Fun K "subset_list" "subset_list" s_subset_list a_subset_list fd_subset_list
  g_subset_list : mg "subset_list" = some (.ref a_subset_list)
  a_is_within : Addr
  fd_is_within : FuncData
  F_is_within : Fun K "is_within" "is_within" s_is_within a_is_within fd_is_within
  g_is_within : mg "is_within" = some (.ref a_is_within)
  a_is_around : Addr
  fd_is_around : FuncData
  F_is_around : Fun K "is_around" "is_around" s_is_around a_is_around fd_is_around
  g_is_around : mg "is_around" = some (.ref a_is_around)
  a_inner_pairs : Addr
  fd_inner_pairs : FuncData
  F_inner_pairs : Fun K "inner_pairs" "inner_pairs" s_inner_pairs a_inner_pairs fd_inner_pairs
  g_inner_pairs : mg "inner_pairs" = some (.ref a_inner_pairs)
  a_convex_fours : Addr
  fd_convex_fours : FuncData
  F_convex_fours : Fun K "convex_fours" "convex_fours" s_convex_fours a_convex_fours fd_convex_fours
  g_convex_fours : mg "convex_fours" = some (.ref a_convex_fours)
  a_check_turns : Addr
  fd_check_turns : FuncData
  F_check_turns : Fun K "check_turns" "check_turns" s_check_turns a_check_turns fd_check_turns
  g_check_turns : mg "check_turns" = some (.ref a_check_turns)
  a_check_point : Addr
  fd_check_point : FuncData
  F_check_point : Fun K "check_point" "check_point" s_check_point a_check_point fd_check_point
  g_check_point : mg "check_point" = some (.ref a_check_point)
  a_check_count : Addr
  fd_check_count : FuncData
  F_check_count : Fun K "check_count" "check_count" s_check_count a_check_count fd_check_count
  g_check_count : mg "check_count" = some (.ref a_check_count)
  a_Floor___init__ : Addr
  fd_Floor___init__ : FuncData
  F_Floor___init__ : Fun K "__init__" "Floor.__init__" s_Floor___init__ a_Floor___init__ fd_Floor___init__
  M_Floor : Mk K a_Floor a_Floor___init__
  a_Floor_only : Addr
  fd_Floor_only : FuncData
  F_Floor_only : Fun K "only" "Floor.only" s_Floor_only a_Floor_only fd_Floor_only
  m_Floor_only : Meth K a_Floor "only" a_Floor_only
  a__law_five_holds : Addr
  fd__law_five_holds : FuncData
  F__law_five_holds : Fun K "_law_five_holds" "_law_five_holds" s__law_five_holds a__law_five_holds fd__law_five_holds
  g__law_five_holds : mg "_law_five_holds" = some (.ref a__law_five_holds)
  a__law_order : Addr
  fd__law_order : FuncData
  F__law_order : Fun K "_law_order" "_law_order" s__law_order a__law_order fd__law_order
  g__law_order : mg "_law_order" = some (.ref a__law_order)
  a__law_cell : Addr
  fd__law_cell : FuncData
  F__law_cell : Fun K "_law_cell" "_law_cell" s__law_cell a__law_cell fd__law_cell
  g__law_cell : mg "_law_cell" = some (.ref a__law_cell)
  a__law_area : Addr
  fd__law_area : FuncData
  F__law_area : Fun K "_law_area" "_law_area" s__law_area a__law_area fd__law_area
  g__law_area : mg "_law_area" = some (.ref a__law_area)
  a__law_is_within : Addr
  fd__law_is_within : FuncData
  F__law_is_within : Fun K "_law_is_within" "_law_is_within" s__law_is_within a__law_is_within fd__law_is_within
  g__law_is_within : mg "_law_is_within" = some (.ref a__law_is_within)
  a__law_pairs : Addr
  fd__law_pairs : FuncData
  F__law_pairs : Fun K "_law_pairs" "_law_pairs" s__law_pairs a__law_pairs fd__law_pairs
  g__law_pairs : mg "_law_pairs" = some (.ref a__law_pairs)
  a__law_made : Addr
  fd__law_made : FuncData
  F__law_made : Fun K "_law_made" "_law_made" s__law_made a__law_made fd__law_made
  g__law_made : mg "_law_made" = some (.ref a__law_made)
  a__law_refusal : Addr
  fd__law_refusal : FuncData
  F__law_refusal : Fun K "_law_refusal" "_law_refusal" s__law_refusal a__law_refusal fd__law_refusal
  g__law_refusal : mg "_law_refusal" = some (.ref a__law_refusal)
  a__law_drawn : Addr
  fd__law_drawn : FuncData
  F__law_drawn : Fun K "_law_drawn" "_law_drawn" s__law_drawn a__law_drawn fd__law_drawn
  g__law_drawn : mg "_law_drawn" = some (.ref a__law_drawn)
  a_law : Addr
  fd_law : FuncData
  F_law : Fun K "law" "law" s_law a_law fd_law
  g_law : mg "law" = some (.ref a_law)
  g_comb : mg "comb" = some (.builtin "math.comb")
  z_ValueError : mg "ValueError" = none
  z_abs : mg "abs" = none
  z_bool : mg "bool" = none
  z_enumerate : mg "enumerate" = none
  z_int : mg "int" = none
  z_isinstance : mg "isinstance" = none
  z_len : mg "len" = none
  z_list : mg "list" = none
  z_range : mg "range" = none
  z_tuple : mg "tuple" = none
  k_WrongCount_BowlError : PySem.W.kitOne K (.ref a_WrongCount) (.ref a_BowlError) = some true
  k_WrongCount_ValueError : PySem.W.kitOne K (.ref a_WrongCount) (.type "ValueError") = some true
  k_TooFar_BowlError : PySem.W.kitOne K (.ref a_TooFar) (.ref a_BowlError) = some true
  k_TooFar_ValueError : PySem.W.kitOne K (.ref a_TooFar) (.type "ValueError") = some true
  k_OnLine_BowlError : PySem.W.kitOne K (.ref a_OnLine) (.ref a_BowlError) = some true
  k_OnLine_ValueError : PySem.W.kitOne K (.ref a_OnLine) (.type "ValueError") = some true
  k_WrongCount_OnLine_TooFar : PySem.W.kitAny K (.ref a_WrongCount) [.ref a_OnLine, .ref a_TooFar] = some false
  k_TooFar_OnLine_WrongCount : PySem.W.kitAny K (.ref a_TooFar) [.ref a_OnLine, .ref a_WrongCount] = some false
  k_OnLine_TooFar_WrongCount : PySem.W.kitAny K (.ref a_OnLine) [.ref a_TooFar, .ref a_WrongCount] = some false
  x_WrongCount_WrongCount : PySem.W.exmOne K (.ref a_WrongCount) (.ref a_WrongCount) = some true
  x_TooFar_WrongCount : PySem.W.exmOne K (.ref a_TooFar) (.ref a_WrongCount) = some false
  x_TooFar_TooFar : PySem.W.exmOne K (.ref a_TooFar) (.ref a_TooFar) = some true
  x_OnLine_WrongCount : PySem.W.exmOne K (.ref a_OnLine) (.ref a_WrongCount) = some false
  x_OnLine_TooFar : PySem.W.exmOne K (.ref a_OnLine) (.ref a_TooFar) = some false
  x_OnLine_OnLine : PySem.W.exmOne K (.ref a_OnLine) (.ref a_OnLine) = some true
def Tx.M {K : PySem.W.Frag} {mg : Str → Option Value} (T : Tx K mg) : EC → Addr
  | .Repeated => T.a_Repeated
  | .NoPoint => T.a_NoPoint
  | .TooFar => T.a_TooFar
  | .OnLine => T.a_OnLine
  | .WrongCount => T.a_WrongCount
  | _ => 0
theorem b_Repeated {K : PySem.W.Frag} {mg : Str → Option Value} (T : Tx K mg) : Binds K T.fd_Repeated ["self", "number"] [] := T.F_Repeated.binds (ps := ["self", "number"]) fun _ _ _ _ _ _ us hl => match us, hl with | [_, _], _ => rfl
theorem b_NoPoint {K : PySem.W.Frag} {mg : Str → Option Value} (T : Tx K mg) : Binds K T.fd_NoPoint ["self", "number"] [] := T.F_NoPoint.binds (ps := ["self", "number"]) fun _ _ _ _ _ _ us hl => match us, hl with | [_, _], _ => rfl
theorem b_TooFar {K : PySem.W.Frag} {mg : Str → Option Value} (T : Tx K mg) : Binds K T.fd_TooFar ["self", "value"] [] := T.F_TooFar.binds (ps := ["self", "value"]) fun _ _ _ _ _ _ us hl => match us, hl with | [_, _], _ => rfl
theorem b_OnLine {K : PySem.W.Frag} {mg : Str → Option Value} (T : Tx K mg) : Binds K T.fd_OnLine ["self", "numbers"] [] := T.F_OnLine.binds (ps := ["self", "numbers"]) fun _ _ _ _ _ _ us hl => match us, hl with | [_, _], _ => rfl
theorem b_WrongCount {K : PySem.W.Frag} {mg : Str → Option Value} (T : Tx K mg) : Binds K T.fd_WrongCount ["self", "count"] [] := T.F_WrongCount.binds (ps := ["self", "count"]) fun _ _ _ _ _ _ us hl => match us, hl with | [_, _], _ => rfl
theorem b__law_fives {K : PySem.W.Frag} {mg : Str → Option Value} (T : Tx K mg) : Binds K T.fd__law_fives ["many"] [] := T.F__law_fives.binds (ps := ["many"]) fun _ _ _ _ _ _ us hl => match us, hl with | [_], _ => rfl
theorem b__law_whole {K : PySem.W.Frag} {mg : Str → Option Value} (T : Tx K mg) : Binds K T.fd__law_whole ["thing"] [] := T.F__law_whole.binds (ps := ["thing"]) fun _ _ _ _ _ _ us hl => match us, hl with | [_], _ => rfl
theorem b_tally {K : PySem.W.Frag} {mg : Str → Option Value} (T : Tx K mg) : Binds K T.fd_tally ["counts", "length"] [] := T.F_tally.binds (ps := ["counts", "length"]) fun _ _ _ _ _ _ us hl => match us, hl with | [_, _], _ => rfl
theorem b_Floor___len__ {K : PySem.W.Frag} {mg : Str → Option Value} (T : Tx K mg) : Binds K T.fd_Floor___len__ ["self"] [] := T.F_Floor___len__.binds (ps := ["self"]) fun _ _ _ _ _ _ us hl => match us, hl with | [_], _ => rfl
theorem b_others {K : PySem.W.Frag} {mg : Str → Option Value} (T : Tx K mg) : Binds K T.fd_others ["n", "number"] [] := T.F_others.binds (ps := ["n", "number"]) fun _ _ _ _ _ _ us hl => match us, hl with | [_, _], _ => rfl
theorem b_bare_area {K : PySem.W.Frag} {mg : Str → Option Value} (T : Tx K mg) : Binds K T.fd_bare_area ["p", "q", "r"] [] := T.F_bare_area.binds (ps := ["p", "q", "r"]) fun _ _ _ _ _ _ us hl => match us, hl with | [_, _, _], _ => rfl
theorem b_check_number {K : PySem.W.Frag} {mg : Str → Option Value} (T : Tx K mg) : Binds K T.fd_check_number ["number", "n"] [] := T.F_check_number.binds (ps := ["number", "n"]) fun _ _ _ _ _ _ us hl => match us, hl with | [_, _], _ => rfl
theorem b_check_numbers {K : PySem.W.Frag} {mg : Str → Option Value} (T : Tx K mg) : Binds K T.fd_check_numbers ["numbers", "n"] [] := T.F_check_numbers.binds (ps := ["numbers", "n"]) fun _ _ _ _ _ _ us hl => match us, hl with | [_, _], _ => rfl
theorem b_Floor_left_of {K : PySem.W.Frag} {mg : Str → Option Value} (T : Tx K mg) : Binds K T.fd_Floor_left_of ["self", "a", "b"] [] := T.F_Floor_left_of.binds (ps := ["self", "a", "b"]) fun _ _ _ _ _ _ us hl => match us, hl with | [_, _, _], _ => rfl
theorem b_lines_and_lefts {K : PySem.W.Frag} {mg : Str → Option Value} (T : Tx K mg) : Binds K T.fd_lines_and_lefts ["floor"] [] := T.F_lines_and_lefts.binds (ps := ["floor"]) fun _ _ _ _ _ _ us hl => match us, hl with | [_], _ => rfl
theorem b_line_row {K : PySem.W.Frag} {mg : Str → Option Value} (T : Tx K mg) : Binds K T.fd_line_row ["floor"] [] := T.F_line_row.binds (ps := ["floor"]) fun _ _ _ _ _ _ us hl => match us, hl with | [_], _ => rfl
theorem b_check_range {K : PySem.W.Frag} {mg : Str → Option Value} (T : Tx K mg) : Binds K T.fd_check_range ["value", "least", "most"] [] := T.F_check_range.binds (ps := ["value", "least", "most"]) fun _ _ _ _ _ _ us hl => match us, hl with | [_, _, _], _ => rfl
theorem b_choose {K : PySem.W.Frag} {mg : Str → Option Value} (T : Tx K mg) : Binds K T.fd_choose ["n", "k"] [] := T.F_choose.binds (ps := ["n", "k"]) fun _ _ _ _ _ _ us hl => match us, hl with | [_, _], _ => rfl
theorem b_first_behind {K : PySem.W.Frag} {mg : Str → Option Value} (T : Tx K mg) : Binds K T.fd_first_behind ["part"] [] := T.F_first_behind.binds (ps := ["part"]) fun _ _ _ _ _ _ us hl => match us, hl with | [_], _ => rfl
theorem b_subset_list {K : PySem.W.Frag} {mg : Str → Option Value} (T : Tx K mg) : Binds K T.fd_subset_list ["n", "size"] [] := T.F_subset_list.binds (ps := ["n", "size"]) fun _ _ _ _ _ _ us hl => match us, hl with | [_, _], _ => rfl
theorem b_is_within {K : PySem.W.Frag} {mg : Str → Option Value} (T : Tx K mg) : Binds K T.fd_is_within ["p", "q", "r", "s"] [] := T.F_is_within.binds (ps := ["p", "q", "r", "s"]) fun _ _ _ _ _ _ us hl => match us, hl with | [_, _, _, _], _ => rfl
theorem b_is_around {K : PySem.W.Frag} {mg : Str → Option Value} (T : Tx K mg) : Binds K T.fd_is_around ["floor", "three", "number"] [] := T.F_is_around.binds (ps := ["floor", "three", "number"]) fun _ _ _ _ _ _ us hl => match us, hl with | [_, _, _], _ => rfl
theorem b_inner_pairs {K : PySem.W.Frag} {mg : Str → Option Value} (T : Tx K mg) : Binds K T.fd_inner_pairs ["floor"] [] := T.F_inner_pairs.binds (ps := ["floor"]) fun _ _ _ _ _ _ us hl => match us, hl with | [_], _ => rfl
theorem b_convex_fours {K : PySem.W.Frag} {mg : Str → Option Value} (T : Tx K mg) : Binds K T.fd_convex_fours ["floor"] [] := T.F_convex_fours.binds (ps := ["floor"]) fun _ _ _ _ _ _ us hl => match us, hl with | [_], _ => rfl
theorem b_check_turns {K : PySem.W.Frag} {mg : Str → Option Value} (T : Tx K mg) : Binds K T.fd_check_turns ["points"] [] := T.F_check_turns.binds (ps := ["points"]) fun _ _ _ _ _ _ us hl => match us, hl with | [_], _ => rfl
theorem b_check_point {K : PySem.W.Frag} {mg : Str → Option Value} (T : Tx K mg) : Binds K T.fd_check_point ["point"] [] := T.F_check_point.binds (ps := ["point"]) fun _ _ _ _ _ _ us hl => match us, hl with | [_], _ => rfl
theorem b_check_count {K : PySem.W.Frag} {mg : Str → Option Value} (T : Tx K mg) : Binds K T.fd_check_count ["members", "least", "most"] [] := T.F_check_count.binds (ps := ["members", "least", "most"]) fun _ _ _ _ _ _ us hl => match us, hl with | [_, _, _], _ => rfl
theorem b_Floor___init__ {K : PySem.W.Frag} {mg : Str → Option Value} (T : Tx K mg) : Binds K T.fd_Floor___init__ ["self", "points"] [] := T.F_Floor___init__.binds (ps := ["self", "points"]) fun _ _ _ _ _ _ us hl => match us, hl with | [_, _], _ => rfl
theorem b_Floor_only {K : PySem.W.Frag} {mg : Str → Option Value} (T : Tx K mg) : Binds K T.fd_Floor_only ["self", "numbers"] [] := T.F_Floor_only.binds (ps := ["self", "numbers"]) fun _ _ _ _ _ _ us hl => match us, hl with | [_, _], _ => rfl
theorem b__law_five_holds {K : PySem.W.Frag} {mg : Str → Option Value} (T : Tx K mg) : Binds K T.fd__law_five_holds ["floor", "numbers", "pairs"] [] := T.F__law_five_holds.binds (ps := ["floor", "numbers", "pairs"]) fun _ _ _ _ _ _ us hl => match us, hl with | [_, _, _], _ => rfl
theorem b__law_order {K : PySem.W.Frag} {mg : Str → Option Value} (T : Tx K mg) : Binds K T.fd__law_order ["c"] [] := T.F__law_order.binds (ps := ["c"]) fun _ _ _ _ _ _ us hl => match us, hl with | [_], _ => rfl
theorem b__law_cell {K : PySem.W.Frag} {mg : Str → Option Value} (T : Tx K mg) : Binds K T.fd__law_cell ["cells", "place"] [] := T.F__law_cell.binds (ps := ["cells", "place"]) fun _ _ _ _ _ _ us hl => match us, hl with | [_, _], _ => rfl
theorem b__law_area {K : PySem.W.Frag} {mg : Str → Option Value} (T : Tx K mg) : Binds K T.fd__law_area ["p", "q", "r"] [] := T.F__law_area.binds (ps := ["p", "q", "r"]) fun _ _ _ _ _ _ us hl => match us, hl with | [_, _, _], _ => rfl
theorem b__law_is_within {K : PySem.W.Frag} {mg : Str → Option Value} (T : Tx K mg) : Binds K T.fd__law_is_within ["points", "number", "three"] [] := T.F__law_is_within.binds (ps := ["points", "number", "three"]) fun _ _ _ _ _ _ us hl => match us, hl with | [_, _, _], _ => rfl
theorem b__law_pairs {K : PySem.W.Frag} {mg : Str → Option Value} (T : Tx K mg) : Binds K T.fd__law_pairs ["points"] [] := T.F__law_pairs.binds (ps := ["points"]) fun _ _ _ _ _ _ us hl => match us, hl with | [_], _ => rfl
theorem b__law_made {K : PySem.W.Frag} {mg : Str → Option Value} (T : Tx K mg) : Binds K T.fd__law_made ["points"] [] := T.F__law_made.binds (ps := ["points"]) fun _ _ _ _ _ _ us hl => match us, hl with | [_], _ => rfl
theorem b__law_refusal {K : PySem.W.Frag} {mg : Str → Option Value} (T : Tx K mg) : Binds K T.fd__law_refusal ["points"] [] := T.F__law_refusal.binds (ps := ["points"]) fun _ _ _ _ _ _ us hl => match us, hl with | [_], _ => rfl
theorem b__law_drawn {K : PySem.W.Frag} {mg : Str → Option Value} (T : Tx K mg) : Binds K T.fd__law_drawn ["cells", "many", "wide"] [] := T.F__law_drawn.binds (ps := ["cells", "many", "wide"]) fun _ _ _ _ _ _ us hl => match us, hl with | [_, _, _], _ => rfl
theorem b_law {K : PySem.W.Frag} {mg : Str → Option Value} (T : Tx K mg) : Binds K T.fd_law ["script"] [] := T.F_law.binds (ps := ["script"]) fun _ _ _ _ _ _ us hl => match us, hl with | [_], _ => rfl
theorem mk_tx {K : PySem.W.Frag} {h : Heap} {mg : Str → Option Value} {a_Repeated i_Repeated a_NoPoint i_NoPoint a_TooFar i_TooFar a_OnLine i_OnLine a_WrongCount i_WrongCount a_BowlError a_Floor a__law_fives a__law_whole a_tally a_Floor___len__ a_others a_bare_area a_check_number a_check_numbers a_Floor_left_of a_lines_and_lefts a_line_row a_check_range a_choose a_first_behind a_subset_list a_is_within a_is_around a_inner_pairs a_convex_fours a_check_turns a_check_point a_check_count a_Floor___init__ a_Floor_only a__law_five_holds a__law_order a__law_cell a__law_area a__law_is_within a__law_pairs a__law_made a__law_refusal a__law_drawn a_law : Addr} (X : K.In h) (G : h.Ns mainGlobals mg)
    {nm_Repeated q_Repeated : Str} {N_Repeated : Addr} {bs_Repeated bm_Repeated : List Value} {sn_Repeated : List Str} {sub_Repeated : List Value} {ab_Repeated : Bool} {col_Repeated : Option Bool} {dd_Repeated : Option Addr} {m0_Repeated m1_Repeated m2_Repeated m3_Repeated m5_Repeated : Option Value}
    {od_Repeated an_Repeated : Option Addr} {sl_Repeated : Array (Option Value)} {oc_Repeated kV_Repeated dc_Repeated pm_Repeated cd_Repeated ct_Repeated : Value}
    {nm_NoPoint q_NoPoint : Str} {N_NoPoint : Addr} {bs_NoPoint bm_NoPoint : List Value} {sn_NoPoint : List Str} {sub_NoPoint : List Value} {ab_NoPoint : Bool} {col_NoPoint : Option Bool} {dd_NoPoint : Option Addr} {m0_NoPoint m1_NoPoint m2_NoPoint m3_NoPoint m5_NoPoint : Option Value}
    {od_NoPoint an_NoPoint : Option Addr} {sl_NoPoint : Array (Option Value)} {oc_NoPoint kV_NoPoint dc_NoPoint pm_NoPoint cd_NoPoint ct_NoPoint : Value}
    {nm_TooFar q_TooFar : Str} {N_TooFar : Addr} {bs_TooFar bm_TooFar : List Value} {sn_TooFar : List Str} {sub_TooFar : List Value} {ab_TooFar : Bool} {col_TooFar : Option Bool} {dd_TooFar : Option Addr} {m0_TooFar m1_TooFar m2_TooFar m3_TooFar m5_TooFar : Option Value}
    {od_TooFar an_TooFar : Option Addr} {sl_TooFar : Array (Option Value)} {oc_TooFar kV_TooFar dc_TooFar pm_TooFar cd_TooFar ct_TooFar : Value}
    {nm_OnLine q_OnLine : Str} {N_OnLine : Addr} {bs_OnLine bm_OnLine : List Value} {sn_OnLine : List Str} {sub_OnLine : List Value} {ab_OnLine : Bool} {col_OnLine : Option Bool} {dd_OnLine : Option Addr} {m0_OnLine m1_OnLine m2_OnLine m3_OnLine m5_OnLine : Option Value}
    {od_OnLine an_OnLine : Option Addr} {sl_OnLine : Array (Option Value)} {oc_OnLine kV_OnLine dc_OnLine pm_OnLine cd_OnLine ct_OnLine : Value}
    {nm_WrongCount q_WrongCount : Str} {N_WrongCount : Addr} {bs_WrongCount bm_WrongCount : List Value} {sn_WrongCount : List Str} {sub_WrongCount : List Value} {ab_WrongCount : Bool} {col_WrongCount : Option Bool} {dd_WrongCount : Option Addr} {m0_WrongCount m1_WrongCount m2_WrongCount m3_WrongCount m5_WrongCount : Option Value}
    {od_WrongCount an_WrongCount : Option Addr} {sl_WrongCount : Array (Option Value)} {oc_WrongCount kV_WrongCount dc_WrongCount pm_WrongCount cd_WrongCount ct_WrongCount : Value}
    {mc_Floor : Value}
    {tk_Floor_LEAST : Tok}
    {tk_Floor_MOST : Tok}
    {tk_Floor_FAR : Tok}
    {od__law_fives an__law_fives : Option Addr} {sl__law_fives : Array (Option Value)} {oc__law_fives kV__law_fives dc__law_fives pm__law_fives cd__law_fives ct__law_fives : Value}
    {od__law_whole an__law_whole : Option Addr} {sl__law_whole : Array (Option Value)} {oc__law_whole kV__law_whole dc__law_whole pm__law_whole cd__law_whole ct__law_whole : Value}
    {od_tally an_tally : Option Addr} {sl_tally : Array (Option Value)} {oc_tally kV_tally dc_tally pm_tally cd_tally ct_tally : Value}
    {od_Floor___len__ an_Floor___len__ : Option Addr} {sl_Floor___len__ : Array (Option Value)} {oc_Floor___len__ kV_Floor___len__ dc_Floor___len__ pm_Floor___len__ cd_Floor___len__ ct_Floor___len__ : Value}
    {od_others an_others : Option Addr} {sl_others : Array (Option Value)} {oc_others kV_others dc_others pm_others cd_others ct_others : Value}
    {od_bare_area an_bare_area : Option Addr} {sl_bare_area : Array (Option Value)} {oc_bare_area kV_bare_area dc_bare_area pm_bare_area cd_bare_area ct_bare_area : Value}
    {od_check_number an_check_number : Option Addr} {sl_check_number : Array (Option Value)} {oc_check_number kV_check_number dc_check_number pm_check_number cd_check_number ct_check_number : Value}
    {od_check_numbers an_check_numbers : Option Addr} {sl_check_numbers : Array (Option Value)} {oc_check_numbers kV_check_numbers dc_check_numbers pm_check_numbers cd_check_numbers ct_check_numbers : Value}
    {od_Floor_left_of an_Floor_left_of : Option Addr} {sl_Floor_left_of : Array (Option Value)} {oc_Floor_left_of kV_Floor_left_of dc_Floor_left_of pm_Floor_left_of cd_Floor_left_of ct_Floor_left_of : Value}
    {od_lines_and_lefts an_lines_and_lefts : Option Addr} {sl_lines_and_lefts : Array (Option Value)} {oc_lines_and_lefts kV_lines_and_lefts dc_lines_and_lefts pm_lines_and_lefts cd_lines_and_lefts ct_lines_and_lefts : Value}
    {od_line_row an_line_row : Option Addr} {sl_line_row : Array (Option Value)} {oc_line_row kV_line_row dc_line_row pm_line_row cd_line_row ct_line_row : Value}
    {od_check_range an_check_range : Option Addr} {sl_check_range : Array (Option Value)} {oc_check_range kV_check_range dc_check_range pm_check_range cd_check_range ct_check_range : Value}
    {od_choose an_choose : Option Addr} {sl_choose : Array (Option Value)} {oc_choose kV_choose dc_choose pm_choose cd_choose ct_choose : Value}
    {od_first_behind an_first_behind : Option Addr} {sl_first_behind : Array (Option Value)} {oc_first_behind kV_first_behind dc_first_behind pm_first_behind cd_first_behind ct_first_behind : Value}
    {od_subset_list an_subset_list : Option Addr} {sl_subset_list : Array (Option Value)} {oc_subset_list kV_subset_list dc_subset_list pm_subset_list cd_subset_list ct_subset_list : Value}
    {od_is_within an_is_within : Option Addr} {sl_is_within : Array (Option Value)} {oc_is_within kV_is_within dc_is_within pm_is_within cd_is_within ct_is_within : Value}
    {od_is_around an_is_around : Option Addr} {sl_is_around : Array (Option Value)} {oc_is_around kV_is_around dc_is_around pm_is_around cd_is_around ct_is_around : Value}
    {od_inner_pairs an_inner_pairs : Option Addr} {sl_inner_pairs : Array (Option Value)} {oc_inner_pairs kV_inner_pairs dc_inner_pairs pm_inner_pairs cd_inner_pairs ct_inner_pairs : Value}
    {od_convex_fours an_convex_fours : Option Addr} {sl_convex_fours : Array (Option Value)} {oc_convex_fours kV_convex_fours dc_convex_fours pm_convex_fours cd_convex_fours ct_convex_fours : Value}
    {od_check_turns an_check_turns : Option Addr} {sl_check_turns : Array (Option Value)} {oc_check_turns kV_check_turns dc_check_turns pm_check_turns cd_check_turns ct_check_turns : Value}
    {od_check_point an_check_point : Option Addr} {sl_check_point : Array (Option Value)} {oc_check_point kV_check_point dc_check_point pm_check_point cd_check_point ct_check_point : Value}
    {od_check_count an_check_count : Option Addr} {sl_check_count : Array (Option Value)} {oc_check_count kV_check_count dc_check_count pm_check_count cd_check_count ct_check_count : Value}
    {od_Floor___init__ an_Floor___init__ : Option Addr} {sl_Floor___init__ : Array (Option Value)} {oc_Floor___init__ kV_Floor___init__ dc_Floor___init__ pm_Floor___init__ cd_Floor___init__ ct_Floor___init__ : Value}
    {od_Floor_only an_Floor_only : Option Addr} {sl_Floor_only : Array (Option Value)} {oc_Floor_only kV_Floor_only dc_Floor_only pm_Floor_only cd_Floor_only ct_Floor_only : Value}
    {od__law_five_holds an__law_five_holds : Option Addr} {sl__law_five_holds : Array (Option Value)} {oc__law_five_holds kV__law_five_holds dc__law_five_holds pm__law_five_holds cd__law_five_holds ct__law_five_holds : Value}
    {od__law_order an__law_order : Option Addr} {sl__law_order : Array (Option Value)} {oc__law_order kV__law_order dc__law_order pm__law_order cd__law_order ct__law_order : Value}
    {od__law_cell an__law_cell : Option Addr} {sl__law_cell : Array (Option Value)} {oc__law_cell kV__law_cell dc__law_cell pm__law_cell cd__law_cell ct__law_cell : Value}
    {od__law_area an__law_area : Option Addr} {sl__law_area : Array (Option Value)} {oc__law_area kV__law_area dc__law_area pm__law_area cd__law_area ct__law_area : Value}
    {od__law_is_within an__law_is_within : Option Addr} {sl__law_is_within : Array (Option Value)} {oc__law_is_within kV__law_is_within dc__law_is_within pm__law_is_within cd__law_is_within ct__law_is_within : Value}
    {od__law_pairs an__law_pairs : Option Addr} {sl__law_pairs : Array (Option Value)} {oc__law_pairs kV__law_pairs dc__law_pairs pm__law_pairs cd__law_pairs ct__law_pairs : Value}
    {od__law_made an__law_made : Option Addr} {sl__law_made : Array (Option Value)} {oc__law_made kV__law_made dc__law_made pm__law_made cd__law_made ct__law_made : Value}
    {od__law_refusal an__law_refusal : Option Addr} {sl__law_refusal : Array (Option Value)} {oc__law_refusal kV__law_refusal dc__law_refusal pm__law_refusal cd__law_refusal ct__law_refusal : Value}
    {od__law_drawn an__law_drawn : Option Addr} {sl__law_drawn : Array (Option Value)} {oc__law_drawn kV__law_drawn dc__law_drawn pm__law_drawn cd__law_drawn ct__law_drawn : Value}
    {od_law an_law : Option Addr} {sl_law : Array (Option Value)} {oc_law kV_law dc_law pm_law cd_law ct_law : Value}
    
    (n_Repeated : PySem.W.nsIn K mainGlobals "Repeated" = some (some (.ref a_Repeated)))
    (o_Repeated : K.lookup a_Repeated = some (excClassObj nm_Repeated q_Repeated a_Repeated N_Repeated bs_Repeated bm_Repeated true sn_Repeated sub_Repeated ab_Repeated col_Repeated dd_Repeated m0_Repeated m1_Repeated m2_Repeated m3_Repeated m5_Repeated "ValueError.__new__"))
    (v_Repeated : PySem.HandSPX.refsVE bm_Repeated = true)
    (sa_Repeated : PySem.W.findIn K (.ref a_Repeated) "__setattr__" = some (some (.builtin "object.__setattr__")))
    (sb_Repeated : PySem.W.subIn K (.ref a_Repeated) (.type "BaseException") = some true)
    (ty_Repeated : PySem.W.typeIn K (.ref a_Repeated) = some (.type "type"))
    (kc_Repeated : PySem.W.keepIn K (.ref a_Repeated) = true)
    (ii_Repeated : PySem.W.findIn K (.ref a_Repeated) "__init__" = some (some (.ref i_Repeated)))
    (ti_Repeated : PySem.W.typeIn K (.ref i_Repeated) = some (.type "function"))
    (nf_Repeated : PySem.W.findIn K (.ref a_Repeated) "number" = some none)
    (ga_Repeated : PySem.W.findIn K (.ref a_Repeated) "__getattribute__" = some (some (.builtin "BaseException.__getattribute__")))
    (gt_Repeated : PySem.W.findIn K (.ref a_Repeated) "__getattr__" = some none)
    (hd_Repeated : PySem.W.hasDictIn K a_Repeated = true)
    (is_Repeated : PySem.W.isClsIn K a_Repeated = true)
    (ca_Repeated : PySem.W.findIn K (.ref a_Repeated) "__class__" = some (some (.builtin "object.__class__")))
    (mo_Repeated : PySem.W.mroIn K a_Repeated (.type "object") = some true)
    (l_Repeated : K.lookup i_Repeated = some ⟨oc_Repeated, od_Repeated, .func (PySem.W.fnOf "__init__" "Repeated.__init__" (defArgs s_Repeated) (defBody s_Repeated) (defScope s_Repeated) .none kV_Repeated dc_Repeated pm_Repeated an_Repeated cd_Repeated ct_Repeated), sl_Repeated⟩)
    (c_Repeated : PySem.W.codeIn K cd_Repeated "Repeated.__init__" = true)
    (kp_Repeated : PySem.W.keepIn K (.ref i_Repeated) = true)
    (n_NoPoint : PySem.W.nsIn K mainGlobals "NoPoint" = some (some (.ref a_NoPoint)))
    (o_NoPoint : K.lookup a_NoPoint = some (excClassObj nm_NoPoint q_NoPoint a_NoPoint N_NoPoint bs_NoPoint bm_NoPoint true sn_NoPoint sub_NoPoint ab_NoPoint col_NoPoint dd_NoPoint m0_NoPoint m1_NoPoint m2_NoPoint m3_NoPoint m5_NoPoint "ValueError.__new__"))
    (v_NoPoint : PySem.HandSPX.refsVE bm_NoPoint = true)
    (sa_NoPoint : PySem.W.findIn K (.ref a_NoPoint) "__setattr__" = some (some (.builtin "object.__setattr__")))
    (sb_NoPoint : PySem.W.subIn K (.ref a_NoPoint) (.type "BaseException") = some true)
    (ty_NoPoint : PySem.W.typeIn K (.ref a_NoPoint) = some (.type "type"))
    (kc_NoPoint : PySem.W.keepIn K (.ref a_NoPoint) = true)
    (ii_NoPoint : PySem.W.findIn K (.ref a_NoPoint) "__init__" = some (some (.ref i_NoPoint)))
    (ti_NoPoint : PySem.W.typeIn K (.ref i_NoPoint) = some (.type "function"))
    (nf_NoPoint : PySem.W.findIn K (.ref a_NoPoint) "number" = some none)
    (ga_NoPoint : PySem.W.findIn K (.ref a_NoPoint) "__getattribute__" = some (some (.builtin "BaseException.__getattribute__")))
    (gt_NoPoint : PySem.W.findIn K (.ref a_NoPoint) "__getattr__" = some none)
    (hd_NoPoint : PySem.W.hasDictIn K a_NoPoint = true)
    (is_NoPoint : PySem.W.isClsIn K a_NoPoint = true)
    (ca_NoPoint : PySem.W.findIn K (.ref a_NoPoint) "__class__" = some (some (.builtin "object.__class__")))
    (mo_NoPoint : PySem.W.mroIn K a_NoPoint (.type "object") = some true)
    (l_NoPoint : K.lookup i_NoPoint = some ⟨oc_NoPoint, od_NoPoint, .func (PySem.W.fnOf "__init__" "NoPoint.__init__" (defArgs s_NoPoint) (defBody s_NoPoint) (defScope s_NoPoint) .none kV_NoPoint dc_NoPoint pm_NoPoint an_NoPoint cd_NoPoint ct_NoPoint), sl_NoPoint⟩)
    (c_NoPoint : PySem.W.codeIn K cd_NoPoint "NoPoint.__init__" = true)
    (kp_NoPoint : PySem.W.keepIn K (.ref i_NoPoint) = true)
    (n_TooFar : PySem.W.nsIn K mainGlobals "TooFar" = some (some (.ref a_TooFar)))
    (o_TooFar : K.lookup a_TooFar = some (excClassObj nm_TooFar q_TooFar a_TooFar N_TooFar bs_TooFar bm_TooFar true sn_TooFar sub_TooFar ab_TooFar col_TooFar dd_TooFar m0_TooFar m1_TooFar m2_TooFar m3_TooFar m5_TooFar "ValueError.__new__"))
    (v_TooFar : PySem.HandSPX.refsVE bm_TooFar = true)
    (sa_TooFar : PySem.W.findIn K (.ref a_TooFar) "__setattr__" = some (some (.builtin "object.__setattr__")))
    (sb_TooFar : PySem.W.subIn K (.ref a_TooFar) (.type "BaseException") = some true)
    (ty_TooFar : PySem.W.typeIn K (.ref a_TooFar) = some (.type "type"))
    (kc_TooFar : PySem.W.keepIn K (.ref a_TooFar) = true)
    (ii_TooFar : PySem.W.findIn K (.ref a_TooFar) "__init__" = some (some (.ref i_TooFar)))
    (ti_TooFar : PySem.W.typeIn K (.ref i_TooFar) = some (.type "function"))
    (nf_TooFar : PySem.W.findIn K (.ref a_TooFar) "value" = some none)
    (ga_TooFar : PySem.W.findIn K (.ref a_TooFar) "__getattribute__" = some (some (.builtin "BaseException.__getattribute__")))
    (gt_TooFar : PySem.W.findIn K (.ref a_TooFar) "__getattr__" = some none)
    (hd_TooFar : PySem.W.hasDictIn K a_TooFar = true)
    (is_TooFar : PySem.W.isClsIn K a_TooFar = true)
    (ca_TooFar : PySem.W.findIn K (.ref a_TooFar) "__class__" = some (some (.builtin "object.__class__")))
    (mo_TooFar : PySem.W.mroIn K a_TooFar (.type "object") = some true)
    (l_TooFar : K.lookup i_TooFar = some ⟨oc_TooFar, od_TooFar, .func (PySem.W.fnOf "__init__" "TooFar.__init__" (defArgs s_TooFar) (defBody s_TooFar) (defScope s_TooFar) .none kV_TooFar dc_TooFar pm_TooFar an_TooFar cd_TooFar ct_TooFar), sl_TooFar⟩)
    (c_TooFar : PySem.W.codeIn K cd_TooFar "TooFar.__init__" = true)
    (kp_TooFar : PySem.W.keepIn K (.ref i_TooFar) = true)
    (n_OnLine : PySem.W.nsIn K mainGlobals "OnLine" = some (some (.ref a_OnLine)))
    (o_OnLine : K.lookup a_OnLine = some (excClassObj nm_OnLine q_OnLine a_OnLine N_OnLine bs_OnLine bm_OnLine true sn_OnLine sub_OnLine ab_OnLine col_OnLine dd_OnLine m0_OnLine m1_OnLine m2_OnLine m3_OnLine m5_OnLine "ValueError.__new__"))
    (v_OnLine : PySem.HandSPX.refsVE bm_OnLine = true)
    (sa_OnLine : PySem.W.findIn K (.ref a_OnLine) "__setattr__" = some (some (.builtin "object.__setattr__")))
    (sb_OnLine : PySem.W.subIn K (.ref a_OnLine) (.type "BaseException") = some true)
    (ty_OnLine : PySem.W.typeIn K (.ref a_OnLine) = some (.type "type"))
    (kc_OnLine : PySem.W.keepIn K (.ref a_OnLine) = true)
    (ii_OnLine : PySem.W.findIn K (.ref a_OnLine) "__init__" = some (some (.ref i_OnLine)))
    (ti_OnLine : PySem.W.typeIn K (.ref i_OnLine) = some (.type "function"))
    (nf_OnLine : PySem.W.findIn K (.ref a_OnLine) "numbers" = some none)
    (ga_OnLine : PySem.W.findIn K (.ref a_OnLine) "__getattribute__" = some (some (.builtin "BaseException.__getattribute__")))
    (gt_OnLine : PySem.W.findIn K (.ref a_OnLine) "__getattr__" = some none)
    (hd_OnLine : PySem.W.hasDictIn K a_OnLine = true)
    (is_OnLine : PySem.W.isClsIn K a_OnLine = true)
    (ca_OnLine : PySem.W.findIn K (.ref a_OnLine) "__class__" = some (some (.builtin "object.__class__")))
    (mo_OnLine : PySem.W.mroIn K a_OnLine (.type "object") = some true)
    (l_OnLine : K.lookup i_OnLine = some ⟨oc_OnLine, od_OnLine, .func (PySem.W.fnOf "__init__" "OnLine.__init__" (defArgs s_OnLine) (defBody s_OnLine) (defScope s_OnLine) .none kV_OnLine dc_OnLine pm_OnLine an_OnLine cd_OnLine ct_OnLine), sl_OnLine⟩)
    (c_OnLine : PySem.W.codeIn K cd_OnLine "OnLine.__init__" = true)
    (kp_OnLine : PySem.W.keepIn K (.ref i_OnLine) = true)
    (n_WrongCount : PySem.W.nsIn K mainGlobals "WrongCount" = some (some (.ref a_WrongCount)))
    (o_WrongCount : K.lookup a_WrongCount = some (excClassObj nm_WrongCount q_WrongCount a_WrongCount N_WrongCount bs_WrongCount bm_WrongCount true sn_WrongCount sub_WrongCount ab_WrongCount col_WrongCount dd_WrongCount m0_WrongCount m1_WrongCount m2_WrongCount m3_WrongCount m5_WrongCount "ValueError.__new__"))
    (v_WrongCount : PySem.HandSPX.refsVE bm_WrongCount = true)
    (sa_WrongCount : PySem.W.findIn K (.ref a_WrongCount) "__setattr__" = some (some (.builtin "object.__setattr__")))
    (sb_WrongCount : PySem.W.subIn K (.ref a_WrongCount) (.type "BaseException") = some true)
    (ty_WrongCount : PySem.W.typeIn K (.ref a_WrongCount) = some (.type "type"))
    (kc_WrongCount : PySem.W.keepIn K (.ref a_WrongCount) = true)
    (ii_WrongCount : PySem.W.findIn K (.ref a_WrongCount) "__init__" = some (some (.ref i_WrongCount)))
    (ti_WrongCount : PySem.W.typeIn K (.ref i_WrongCount) = some (.type "function"))
    (nf_WrongCount : PySem.W.findIn K (.ref a_WrongCount) "count" = some none)
    (ga_WrongCount : PySem.W.findIn K (.ref a_WrongCount) "__getattribute__" = some (some (.builtin "BaseException.__getattribute__")))
    (gt_WrongCount : PySem.W.findIn K (.ref a_WrongCount) "__getattr__" = some none)
    (hd_WrongCount : PySem.W.hasDictIn K a_WrongCount = true)
    (is_WrongCount : PySem.W.isClsIn K a_WrongCount = true)
    (ca_WrongCount : PySem.W.findIn K (.ref a_WrongCount) "__class__" = some (some (.builtin "object.__class__")))
    (mo_WrongCount : PySem.W.mroIn K a_WrongCount (.type "object") = some true)
    (l_WrongCount : K.lookup i_WrongCount = some ⟨oc_WrongCount, od_WrongCount, .func (PySem.W.fnOf "__init__" "WrongCount.__init__" (defArgs s_WrongCount) (defBody s_WrongCount) (defScope s_WrongCount) .none kV_WrongCount dc_WrongCount pm_WrongCount an_WrongCount cd_WrongCount ct_WrongCount), sl_WrongCount⟩)
    (c_WrongCount : PySem.W.codeIn K cd_WrongCount "WrongCount.__init__" = true)
    (kp_WrongCount : PySem.W.keepIn K (.ref i_WrongCount) = true)
    (n_BowlError : PySem.W.nsIn K mainGlobals "BowlError" = some (some (.ref a_BowlError)))
    (is_BowlError : PySem.W.isClsIn K a_BowlError = true)
    (ty_BowlError : PySem.W.typeIn K (.ref a_BowlError) = some (.type "type"))
    (gn : PySem.W.specialIn K (.builtin "object.__class__") "__get__" = some (some (.builtin "getset_descriptor.__get__")))
    (tkc : PySem.W.takesIn K (.builtin "object.__class__") = some true)
    (n_Floor : PySem.W.nsIn K mainGlobals "Floor" = some (some (.ref a_Floor)))
    (pg_Floor : PySem.W.plainGet K a_Floor Str.empty = true)
    (hd_Floor : PySem.W.hasDictIn K a_Floor = true)
    (po_Floor : PySem.W.plainOver K a_Floor = true)
    (sa_Floor : PySem.W.findIn K (.ref a_Floor) "__setattr__" = some (some (.builtin "object.__setattr__")))
    (tc_Floor : PySem.W.typeIn K (.ref a_Floor) = some mc_Floor)
    (rd_Floor : PySem.W.readsIn K a_Floor mc_Floor = true)
    (gc_Floor : PySem.W.specialIn K (.ref a_Floor) "__getattribute__" = some (some (.builtin "type.__getattribute__")))
    (na_Floor_points : PySem.W.findIn K (.ref a_Floor) "points" = some none)
    (cv_Floor_LEAST : PySem.W.findCls K (.ref a_Floor) mc_Floor "LEAST" = some (.val (.int 3 tk_Floor_LEAST)))
    (cv_Floor_MOST : PySem.W.findCls K (.ref a_Floor) mc_Floor "MOST" = some (.val (.int 10 tk_Floor_MOST)))
    (cv_Floor_FAR : PySem.W.findCls K (.ref a_Floor) mc_Floor "FAR" = some (.val (.int 1000000 tk_Floor_FAR)))
    (ca_Floor : PySem.W.findIn K (.ref a_Floor) "__class__" = some (some (.builtin "object.__class__")))
    (mo_Floor : PySem.W.mroIn K a_Floor (.type "object") = some true)
    (n__law_fives : PySem.W.nsIn K mainGlobals "_law_fives" = some (some (.ref a__law_fives)))
    (l__law_fives : K.lookup a__law_fives = some ⟨oc__law_fives, od__law_fives, .func (PySem.W.fnOf "_law_fives" "_law_fives" (defArgs s__law_fives) (defBody s__law_fives) (defScope s__law_fives) .none kV__law_fives dc__law_fives pm__law_fives an__law_fives cd__law_fives ct__law_fives), sl__law_fives⟩)
    (c__law_fives : PySem.W.codeIn K cd__law_fives "_law_fives" = true)
    (kp__law_fives : PySem.W.keepIn K (.ref a__law_fives) = true)
    (n__law_whole : PySem.W.nsIn K mainGlobals "_law_whole" = some (some (.ref a__law_whole)))
    (l__law_whole : K.lookup a__law_whole = some ⟨oc__law_whole, od__law_whole, .func (PySem.W.fnOf "_law_whole" "_law_whole" (defArgs s__law_whole) (defBody s__law_whole) (defScope s__law_whole) .none kV__law_whole dc__law_whole pm__law_whole an__law_whole cd__law_whole ct__law_whole), sl__law_whole⟩)
    (c__law_whole : PySem.W.codeIn K cd__law_whole "_law_whole" = true)
    (kp__law_whole : PySem.W.keepIn K (.ref a__law_whole) = true)
    (n_tally : PySem.W.nsIn K mainGlobals "tally" = some (some (.ref a_tally)))
    (l_tally : K.lookup a_tally = some ⟨oc_tally, od_tally, .func (PySem.W.fnOf "tally" "tally" (defArgs s_tally) (defBody s_tally) (defScope s_tally) .none kV_tally dc_tally pm_tally an_tally cd_tally ct_tally), sl_tally⟩)
    (c_tally : PySem.W.codeIn K cd_tally "tally" = true)
    (kp_tally : PySem.W.keepIn K (.ref a_tally) = true)
    (f_Floor___len__ : PySem.W.findIn K (.ref a_Floor) "__len__" = some (some (.ref a_Floor___len__)))
    (fi_Floor___len__ : PySem.W.isFn K (.ref a_Floor___len__) = true)
    (l_Floor___len__ : K.lookup a_Floor___len__ = some ⟨oc_Floor___len__, od_Floor___len__, .func (PySem.W.fnOf "__len__" "Floor.__len__" (defArgs s_Floor___len__) (defBody s_Floor___len__) (defScope s_Floor___len__) .none kV_Floor___len__ dc_Floor___len__ pm_Floor___len__ an_Floor___len__ cd_Floor___len__ ct_Floor___len__), sl_Floor___len__⟩)
    (c_Floor___len__ : PySem.W.codeIn K cd_Floor___len__ "Floor.__len__" = true)
    (kp_Floor___len__ : PySem.W.keepIn K (.ref a_Floor___len__) = true)
    (n_others : PySem.W.nsIn K mainGlobals "others" = some (some (.ref a_others)))
    (l_others : K.lookup a_others = some ⟨oc_others, od_others, .func (PySem.W.fnOf "others" "others" (defArgs s_others) (defBody s_others) (defScope s_others) .none kV_others dc_others pm_others an_others cd_others ct_others), sl_others⟩)
    (c_others : PySem.W.codeIn K cd_others "others" = true)
    (kp_others : PySem.W.keepIn K (.ref a_others) = true)
    (n_bare_area : PySem.W.nsIn K mainGlobals "bare_area" = some (some (.ref a_bare_area)))
    (l_bare_area : K.lookup a_bare_area = some ⟨oc_bare_area, od_bare_area, .func (PySem.W.fnOf "bare_area" "bare_area" (defArgs s_bare_area) (defBody s_bare_area) (defScope s_bare_area) .none kV_bare_area dc_bare_area pm_bare_area an_bare_area cd_bare_area ct_bare_area), sl_bare_area⟩)
    (c_bare_area : PySem.W.codeIn K cd_bare_area "bare_area" = true)
    (kp_bare_area : PySem.W.keepIn K (.ref a_bare_area) = true)
    (n_check_number : PySem.W.nsIn K mainGlobals "check_number" = some (some (.ref a_check_number)))
    (l_check_number : K.lookup a_check_number = some ⟨oc_check_number, od_check_number, .func (PySem.W.fnOf "check_number" "check_number" (defArgs s_check_number) (defBody s_check_number) (defScope s_check_number) .none kV_check_number dc_check_number pm_check_number an_check_number cd_check_number ct_check_number), sl_check_number⟩)
    (c_check_number : PySem.W.codeIn K cd_check_number "check_number" = true)
    (kp_check_number : PySem.W.keepIn K (.ref a_check_number) = true)
    (n_check_numbers : PySem.W.nsIn K mainGlobals "check_numbers" = some (some (.ref a_check_numbers)))
    (l_check_numbers : K.lookup a_check_numbers = some ⟨oc_check_numbers, od_check_numbers, .func (PySem.W.fnOf "check_numbers" "check_numbers" (defArgs s_check_numbers) (defBody s_check_numbers) (defScope s_check_numbers) .none kV_check_numbers dc_check_numbers pm_check_numbers an_check_numbers cd_check_numbers ct_check_numbers), sl_check_numbers⟩)
    (c_check_numbers : PySem.W.codeIn K cd_check_numbers "check_numbers" = true)
    (kp_check_numbers : PySem.W.keepIn K (.ref a_check_numbers) = true)
    (f_Floor_left_of : PySem.W.findIn K (.ref a_Floor) "left_of" = some (some (.ref a_Floor_left_of)))
    (fi_Floor_left_of : PySem.W.isFn K (.ref a_Floor_left_of) = true)
    (l_Floor_left_of : K.lookup a_Floor_left_of = some ⟨oc_Floor_left_of, od_Floor_left_of, .func (PySem.W.fnOf "left_of" "Floor.left_of" (defArgs s_Floor_left_of) (defBody s_Floor_left_of) (defScope s_Floor_left_of) .none kV_Floor_left_of dc_Floor_left_of pm_Floor_left_of an_Floor_left_of cd_Floor_left_of ct_Floor_left_of), sl_Floor_left_of⟩)
    (c_Floor_left_of : PySem.W.codeIn K cd_Floor_left_of "Floor.left_of" = true)
    (kp_Floor_left_of : PySem.W.keepIn K (.ref a_Floor_left_of) = true)
    (n_lines_and_lefts : PySem.W.nsIn K mainGlobals "lines_and_lefts" = some (some (.ref a_lines_and_lefts)))
    (l_lines_and_lefts : K.lookup a_lines_and_lefts = some ⟨oc_lines_and_lefts, od_lines_and_lefts, .func (PySem.W.fnOf "lines_and_lefts" "lines_and_lefts" (defArgs s_lines_and_lefts) (defBody s_lines_and_lefts) (defScope s_lines_and_lefts) .none kV_lines_and_lefts dc_lines_and_lefts pm_lines_and_lefts an_lines_and_lefts cd_lines_and_lefts ct_lines_and_lefts), sl_lines_and_lefts⟩)
    (c_lines_and_lefts : PySem.W.codeIn K cd_lines_and_lefts "lines_and_lefts" = true)
    (kp_lines_and_lefts : PySem.W.keepIn K (.ref a_lines_and_lefts) = true)
    (n_line_row : PySem.W.nsIn K mainGlobals "line_row" = some (some (.ref a_line_row)))
    (l_line_row : K.lookup a_line_row = some ⟨oc_line_row, od_line_row, .func (PySem.W.fnOf "line_row" "line_row" (defArgs s_line_row) (defBody s_line_row) (defScope s_line_row) .none kV_line_row dc_line_row pm_line_row an_line_row cd_line_row ct_line_row), sl_line_row⟩)
    (c_line_row : PySem.W.codeIn K cd_line_row "line_row" = true)
    (kp_line_row : PySem.W.keepIn K (.ref a_line_row) = true)
    (n_check_range : PySem.W.nsIn K mainGlobals "check_range" = some (some (.ref a_check_range)))
    (l_check_range : K.lookup a_check_range = some ⟨oc_check_range, od_check_range, .func (PySem.W.fnOf "check_range" "check_range" (defArgs s_check_range) (defBody s_check_range) (defScope s_check_range) .none kV_check_range dc_check_range pm_check_range an_check_range cd_check_range ct_check_range), sl_check_range⟩)
    (c_check_range : PySem.W.codeIn K cd_check_range "check_range" = true)
    (kp_check_range : PySem.W.keepIn K (.ref a_check_range) = true)
    (n_choose : PySem.W.nsIn K mainGlobals "choose" = some (some (.ref a_choose)))
    (l_choose : K.lookup a_choose = some ⟨oc_choose, od_choose, .func (PySem.W.fnOf "choose" "choose" (defArgs s_choose) (defBody s_choose) (defScope s_choose) .none kV_choose dc_choose pm_choose an_choose cd_choose ct_choose), sl_choose⟩)
    (c_choose : PySem.W.codeIn K cd_choose "choose" = true)
    (kp_choose : PySem.W.keepIn K (.ref a_choose) = true)
    (n_first_behind : PySem.W.nsIn K mainGlobals "first_behind" = some (some (.ref a_first_behind)))
    (l_first_behind : K.lookup a_first_behind = some ⟨oc_first_behind, od_first_behind, .func (PySem.W.fnOf "first_behind" "first_behind" (defArgs s_first_behind) (defBody s_first_behind) (defScope s_first_behind) .none kV_first_behind dc_first_behind pm_first_behind an_first_behind cd_first_behind ct_first_behind), sl_first_behind⟩)
    (c_first_behind : PySem.W.codeIn K cd_first_behind "first_behind" = true)
    (kp_first_behind : PySem.W.keepIn K (.ref a_first_behind) = true)
    (n_subset_list : PySem.W.nsIn K mainGlobals "subset_list" = some (some (.ref a_subset_list)))
    (l_subset_list : K.lookup a_subset_list = some ⟨oc_subset_list, od_subset_list, .func (PySem.W.fnOf "subset_list" "subset_list" (defArgs s_subset_list) (defBody s_subset_list) (defScope s_subset_list) .none kV_subset_list dc_subset_list pm_subset_list an_subset_list cd_subset_list ct_subset_list), sl_subset_list⟩)
    (c_subset_list : PySem.W.codeIn K cd_subset_list "subset_list" = true)
    (kp_subset_list : PySem.W.keepIn K (.ref a_subset_list) = true)
    (n_is_within : PySem.W.nsIn K mainGlobals "is_within" = some (some (.ref a_is_within)))
    (l_is_within : K.lookup a_is_within = some ⟨oc_is_within, od_is_within, .func (PySem.W.fnOf "is_within" "is_within" (defArgs s_is_within) (defBody s_is_within) (defScope s_is_within) .none kV_is_within dc_is_within pm_is_within an_is_within cd_is_within ct_is_within), sl_is_within⟩)
    (c_is_within : PySem.W.codeIn K cd_is_within "is_within" = true)
    (kp_is_within : PySem.W.keepIn K (.ref a_is_within) = true)
    (n_is_around : PySem.W.nsIn K mainGlobals "is_around" = some (some (.ref a_is_around)))
    (l_is_around : K.lookup a_is_around = some ⟨oc_is_around, od_is_around, .func (PySem.W.fnOf "is_around" "is_around" (defArgs s_is_around) (defBody s_is_around) (defScope s_is_around) .none kV_is_around dc_is_around pm_is_around an_is_around cd_is_around ct_is_around), sl_is_around⟩)
    (c_is_around : PySem.W.codeIn K cd_is_around "is_around" = true)
    (kp_is_around : PySem.W.keepIn K (.ref a_is_around) = true)
    (n_inner_pairs : PySem.W.nsIn K mainGlobals "inner_pairs" = some (some (.ref a_inner_pairs)))
    (l_inner_pairs : K.lookup a_inner_pairs = some ⟨oc_inner_pairs, od_inner_pairs, .func (PySem.W.fnOf "inner_pairs" "inner_pairs" (defArgs s_inner_pairs) (defBody s_inner_pairs) (defScope s_inner_pairs) .none kV_inner_pairs dc_inner_pairs pm_inner_pairs an_inner_pairs cd_inner_pairs ct_inner_pairs), sl_inner_pairs⟩)
    (c_inner_pairs : PySem.W.codeIn K cd_inner_pairs "inner_pairs" = true)
    (kp_inner_pairs : PySem.W.keepIn K (.ref a_inner_pairs) = true)
    (n_convex_fours : PySem.W.nsIn K mainGlobals "convex_fours" = some (some (.ref a_convex_fours)))
    (l_convex_fours : K.lookup a_convex_fours = some ⟨oc_convex_fours, od_convex_fours, .func (PySem.W.fnOf "convex_fours" "convex_fours" (defArgs s_convex_fours) (defBody s_convex_fours) (defScope s_convex_fours) .none kV_convex_fours dc_convex_fours pm_convex_fours an_convex_fours cd_convex_fours ct_convex_fours), sl_convex_fours⟩)
    (c_convex_fours : PySem.W.codeIn K cd_convex_fours "convex_fours" = true)
    (kp_convex_fours : PySem.W.keepIn K (.ref a_convex_fours) = true)
    (n_check_turns : PySem.W.nsIn K mainGlobals "check_turns" = some (some (.ref a_check_turns)))
    (l_check_turns : K.lookup a_check_turns = some ⟨oc_check_turns, od_check_turns, .func (PySem.W.fnOf "check_turns" "check_turns" (defArgs s_check_turns) (defBody s_check_turns) (defScope s_check_turns) .none kV_check_turns dc_check_turns pm_check_turns an_check_turns cd_check_turns ct_check_turns), sl_check_turns⟩)
    (c_check_turns : PySem.W.codeIn K cd_check_turns "check_turns" = true)
    (kp_check_turns : PySem.W.keepIn K (.ref a_check_turns) = true)
    (n_check_point : PySem.W.nsIn K mainGlobals "check_point" = some (some (.ref a_check_point)))
    (l_check_point : K.lookup a_check_point = some ⟨oc_check_point, od_check_point, .func (PySem.W.fnOf "check_point" "check_point" (defArgs s_check_point) (defBody s_check_point) (defScope s_check_point) .none kV_check_point dc_check_point pm_check_point an_check_point cd_check_point ct_check_point), sl_check_point⟩)
    (c_check_point : PySem.W.codeIn K cd_check_point "check_point" = true)
    (kp_check_point : PySem.W.keepIn K (.ref a_check_point) = true)
    (n_check_count : PySem.W.nsIn K mainGlobals "check_count" = some (some (.ref a_check_count)))
    (l_check_count : K.lookup a_check_count = some ⟨oc_check_count, od_check_count, .func (PySem.W.fnOf "check_count" "check_count" (defArgs s_check_count) (defBody s_check_count) (defScope s_check_count) .none kV_check_count dc_check_count pm_check_count an_check_count cd_check_count ct_check_count), sl_check_count⟩)
    (c_check_count : PySem.W.codeIn K cd_check_count "check_count" = true)
    (kp_check_count : PySem.W.keepIn K (.ref a_check_count) = true)
    (f_Floor___init__ : PySem.W.findIn K (.ref a_Floor) "__init__" = some (some (.ref a_Floor___init__)))
    (fi_Floor___init__ : PySem.W.isFn K (.ref a_Floor___init__) = true)
    (l_Floor___init__ : K.lookup a_Floor___init__ = some ⟨oc_Floor___init__, od_Floor___init__, .func (PySem.W.fnOf "__init__" "Floor.__init__" (defArgs s_Floor___init__) (defBody s_Floor___init__) (defScope s_Floor___init__) .none kV_Floor___init__ dc_Floor___init__ pm_Floor___init__ an_Floor___init__ cd_Floor___init__ ct_Floor___init__), sl_Floor___init__⟩)
    (c_Floor___init__ : PySem.W.codeIn K cd_Floor___init__ "Floor.__init__" = true)
    (kp_Floor___init__ : PySem.W.keepIn K (.ref a_Floor___init__) = true)
    (mk_Floor : PySem.W.makesIn K a_Floor = true)
    (kc_Floor : PySem.W.keepIn K (.ref a_Floor) = true)
    (f_Floor_only : PySem.W.findIn K (.ref a_Floor) "only" = some (some (.ref a_Floor_only)))
    (fi_Floor_only : PySem.W.isFn K (.ref a_Floor_only) = true)
    (l_Floor_only : K.lookup a_Floor_only = some ⟨oc_Floor_only, od_Floor_only, .func (PySem.W.fnOf "only" "Floor.only" (defArgs s_Floor_only) (defBody s_Floor_only) (defScope s_Floor_only) .none kV_Floor_only dc_Floor_only pm_Floor_only an_Floor_only cd_Floor_only ct_Floor_only), sl_Floor_only⟩)
    (c_Floor_only : PySem.W.codeIn K cd_Floor_only "Floor.only" = true)
    (kp_Floor_only : PySem.W.keepIn K (.ref a_Floor_only) = true)
    (n__law_five_holds : PySem.W.nsIn K mainGlobals "_law_five_holds" = some (some (.ref a__law_five_holds)))
    (l__law_five_holds : K.lookup a__law_five_holds = some ⟨oc__law_five_holds, od__law_five_holds, .func (PySem.W.fnOf "_law_five_holds" "_law_five_holds" (defArgs s__law_five_holds) (defBody s__law_five_holds) (defScope s__law_five_holds) .none kV__law_five_holds dc__law_five_holds pm__law_five_holds an__law_five_holds cd__law_five_holds ct__law_five_holds), sl__law_five_holds⟩)
    (c__law_five_holds : PySem.W.codeIn K cd__law_five_holds "_law_five_holds" = true)
    (kp__law_five_holds : PySem.W.keepIn K (.ref a__law_five_holds) = true)
    (n__law_order : PySem.W.nsIn K mainGlobals "_law_order" = some (some (.ref a__law_order)))
    (l__law_order : K.lookup a__law_order = some ⟨oc__law_order, od__law_order, .func (PySem.W.fnOf "_law_order" "_law_order" (defArgs s__law_order) (defBody s__law_order) (defScope s__law_order) .none kV__law_order dc__law_order pm__law_order an__law_order cd__law_order ct__law_order), sl__law_order⟩)
    (c__law_order : PySem.W.codeIn K cd__law_order "_law_order" = true)
    (kp__law_order : PySem.W.keepIn K (.ref a__law_order) = true)
    (n__law_cell : PySem.W.nsIn K mainGlobals "_law_cell" = some (some (.ref a__law_cell)))
    (l__law_cell : K.lookup a__law_cell = some ⟨oc__law_cell, od__law_cell, .func (PySem.W.fnOf "_law_cell" "_law_cell" (defArgs s__law_cell) (defBody s__law_cell) (defScope s__law_cell) .none kV__law_cell dc__law_cell pm__law_cell an__law_cell cd__law_cell ct__law_cell), sl__law_cell⟩)
    (c__law_cell : PySem.W.codeIn K cd__law_cell "_law_cell" = true)
    (kp__law_cell : PySem.W.keepIn K (.ref a__law_cell) = true)
    (n__law_area : PySem.W.nsIn K mainGlobals "_law_area" = some (some (.ref a__law_area)))
    (l__law_area : K.lookup a__law_area = some ⟨oc__law_area, od__law_area, .func (PySem.W.fnOf "_law_area" "_law_area" (defArgs s__law_area) (defBody s__law_area) (defScope s__law_area) .none kV__law_area dc__law_area pm__law_area an__law_area cd__law_area ct__law_area), sl__law_area⟩)
    (c__law_area : PySem.W.codeIn K cd__law_area "_law_area" = true)
    (kp__law_area : PySem.W.keepIn K (.ref a__law_area) = true)
    (n__law_is_within : PySem.W.nsIn K mainGlobals "_law_is_within" = some (some (.ref a__law_is_within)))
    (l__law_is_within : K.lookup a__law_is_within = some ⟨oc__law_is_within, od__law_is_within, .func (PySem.W.fnOf "_law_is_within" "_law_is_within" (defArgs s__law_is_within) (defBody s__law_is_within) (defScope s__law_is_within) .none kV__law_is_within dc__law_is_within pm__law_is_within an__law_is_within cd__law_is_within ct__law_is_within), sl__law_is_within⟩)
    (c__law_is_within : PySem.W.codeIn K cd__law_is_within "_law_is_within" = true)
    (kp__law_is_within : PySem.W.keepIn K (.ref a__law_is_within) = true)
    (n__law_pairs : PySem.W.nsIn K mainGlobals "_law_pairs" = some (some (.ref a__law_pairs)))
    (l__law_pairs : K.lookup a__law_pairs = some ⟨oc__law_pairs, od__law_pairs, .func (PySem.W.fnOf "_law_pairs" "_law_pairs" (defArgs s__law_pairs) (defBody s__law_pairs) (defScope s__law_pairs) .none kV__law_pairs dc__law_pairs pm__law_pairs an__law_pairs cd__law_pairs ct__law_pairs), sl__law_pairs⟩)
    (c__law_pairs : PySem.W.codeIn K cd__law_pairs "_law_pairs" = true)
    (kp__law_pairs : PySem.W.keepIn K (.ref a__law_pairs) = true)
    (n__law_made : PySem.W.nsIn K mainGlobals "_law_made" = some (some (.ref a__law_made)))
    (l__law_made : K.lookup a__law_made = some ⟨oc__law_made, od__law_made, .func (PySem.W.fnOf "_law_made" "_law_made" (defArgs s__law_made) (defBody s__law_made) (defScope s__law_made) .none kV__law_made dc__law_made pm__law_made an__law_made cd__law_made ct__law_made), sl__law_made⟩)
    (c__law_made : PySem.W.codeIn K cd__law_made "_law_made" = true)
    (kp__law_made : PySem.W.keepIn K (.ref a__law_made) = true)
    (n__law_refusal : PySem.W.nsIn K mainGlobals "_law_refusal" = some (some (.ref a__law_refusal)))
    (l__law_refusal : K.lookup a__law_refusal = some ⟨oc__law_refusal, od__law_refusal, .func (PySem.W.fnOf "_law_refusal" "_law_refusal" (defArgs s__law_refusal) (defBody s__law_refusal) (defScope s__law_refusal) .none kV__law_refusal dc__law_refusal pm__law_refusal an__law_refusal cd__law_refusal ct__law_refusal), sl__law_refusal⟩)
    (c__law_refusal : PySem.W.codeIn K cd__law_refusal "_law_refusal" = true)
    (kp__law_refusal : PySem.W.keepIn K (.ref a__law_refusal) = true)
    (n__law_drawn : PySem.W.nsIn K mainGlobals "_law_drawn" = some (some (.ref a__law_drawn)))
    (l__law_drawn : K.lookup a__law_drawn = some ⟨oc__law_drawn, od__law_drawn, .func (PySem.W.fnOf "_law_drawn" "_law_drawn" (defArgs s__law_drawn) (defBody s__law_drawn) (defScope s__law_drawn) .none kV__law_drawn dc__law_drawn pm__law_drawn an__law_drawn cd__law_drawn ct__law_drawn), sl__law_drawn⟩)
    (c__law_drawn : PySem.W.codeIn K cd__law_drawn "_law_drawn" = true)
    (kp__law_drawn : PySem.W.keepIn K (.ref a__law_drawn) = true)
    (n_law : PySem.W.nsIn K mainGlobals "law" = some (some (.ref a_law)))
    (l_law : K.lookup a_law = some ⟨oc_law, od_law, .func (PySem.W.fnOf "law" "law" (defArgs s_law) (defBody s_law) (defScope s_law) .none kV_law dc_law pm_law an_law cd_law ct_law), sl_law⟩)
    (c_law : PySem.W.codeIn K cd_law "law" = true)
    (kp_law : PySem.W.keepIn K (.ref a_law) = true)
    (n_comb : PySem.W.nsIn K mainGlobals "comb" = some (some (.builtin "math.comb")))
    (z_ValueError : PySem.W.nsIn K mainGlobals "ValueError" = some none)
    (z_abs : PySem.W.nsIn K mainGlobals "abs" = some none)
    (z_bool : PySem.W.nsIn K mainGlobals "bool" = some none)
    (z_enumerate : PySem.W.nsIn K mainGlobals "enumerate" = some none)
    (z_int : PySem.W.nsIn K mainGlobals "int" = some none)
    (z_isinstance : PySem.W.nsIn K mainGlobals "isinstance" = some none)
    (z_len : PySem.W.nsIn K mainGlobals "len" = some none)
    (z_list : PySem.W.nsIn K mainGlobals "list" = some none)
    (z_range : PySem.W.nsIn K mainGlobals "range" = some none)
    (z_tuple : PySem.W.nsIn K mainGlobals "tuple" = some none)
    (s_WrongCount_BowlError : PySem.W.subIn K (.ref a_WrongCount) (.ref a_BowlError) = some true)
    (s_WrongCount_ValueError : PySem.W.subIn K (.ref a_WrongCount) (.type "ValueError") = some true)
    (s_TooFar_BowlError : PySem.W.subIn K (.ref a_TooFar) (.ref a_BowlError) = some true)
    (s_TooFar_ValueError : PySem.W.subIn K (.ref a_TooFar) (.type "ValueError") = some true)
    (s_OnLine_BowlError : PySem.W.subIn K (.ref a_OnLine) (.ref a_BowlError) = some true)
    (s_OnLine_ValueError : PySem.W.subIn K (.ref a_OnLine) (.type "ValueError") = some true)
    (s_WrongCount_WrongCount : PySem.W.subIn K (.ref a_WrongCount) (.ref a_WrongCount) = some true)
    (s_WrongCount_OnLine : PySem.W.subIn K (.ref a_WrongCount) (.ref a_OnLine) = some false)
    (s_WrongCount_TooFar : PySem.W.subIn K (.ref a_WrongCount) (.ref a_TooFar) = some false)
    (s_TooFar_TooFar : PySem.W.subIn K (.ref a_TooFar) (.ref a_TooFar) = some true)
    (s_TooFar_OnLine : PySem.W.subIn K (.ref a_TooFar) (.ref a_OnLine) = some false)
    (s_TooFar_WrongCount : PySem.W.subIn K (.ref a_TooFar) (.ref a_WrongCount) = some false)
    (s_OnLine_OnLine : PySem.W.subIn K (.ref a_OnLine) (.ref a_OnLine) = some true)
    (s_OnLine_TooFar : PySem.W.subIn K (.ref a_OnLine) (.ref a_TooFar) = some false)
    (s_OnLine_WrongCount : PySem.W.subIn K (.ref a_OnLine) (.ref a_WrongCount) = some false) :
    ∃ T : Tx K mg, mg "law" = some (.ref T.a_law) :=
  ⟨{ a_Repeated := a_Repeated,
     i_Repeated := i_Repeated,
     fd_Repeated := _,
     g_Repeated := PySem.W.mg_of X G n_Repeated,
     F_Repeated := fun_mk (st := s_Repeated) l_Repeated c_Repeated kp_Repeated,
     X_Repeated := ⟨⟨⟨_, _, _, _, _, _, _, _, _, _, _, _, _, _, _, o_Repeated, v_Repeated⟩, sa_Repeated, sb_Repeated, ty_Repeated, kc_Repeated⟩, ii_Repeated, ti_Repeated, nf_Repeated, ⟨ga_Repeated, gt_Repeated, sb_Repeated, hd_Repeated⟩, ⟨is_Repeated, ga_Repeated, gt_Repeated, sb_Repeated, ca_Repeated, gn, tkc, mo_Repeated⟩⟩,
     a_NoPoint := a_NoPoint,
     i_NoPoint := i_NoPoint,
     fd_NoPoint := _,
     g_NoPoint := PySem.W.mg_of X G n_NoPoint,
     F_NoPoint := fun_mk (st := s_NoPoint) l_NoPoint c_NoPoint kp_NoPoint,
     X_NoPoint := ⟨⟨⟨_, _, _, _, _, _, _, _, _, _, _, _, _, _, _, o_NoPoint, v_NoPoint⟩, sa_NoPoint, sb_NoPoint, ty_NoPoint, kc_NoPoint⟩, ii_NoPoint, ti_NoPoint, nf_NoPoint, ⟨ga_NoPoint, gt_NoPoint, sb_NoPoint, hd_NoPoint⟩, ⟨is_NoPoint, ga_NoPoint, gt_NoPoint, sb_NoPoint, ca_NoPoint, gn, tkc, mo_NoPoint⟩⟩,
     a_TooFar := a_TooFar,
     i_TooFar := i_TooFar,
     fd_TooFar := _,
     g_TooFar := PySem.W.mg_of X G n_TooFar,
     F_TooFar := fun_mk (st := s_TooFar) l_TooFar c_TooFar kp_TooFar,
     X_TooFar := ⟨⟨⟨_, _, _, _, _, _, _, _, _, _, _, _, _, _, _, o_TooFar, v_TooFar⟩, sa_TooFar, sb_TooFar, ty_TooFar, kc_TooFar⟩, ii_TooFar, ti_TooFar, nf_TooFar, ⟨ga_TooFar, gt_TooFar, sb_TooFar, hd_TooFar⟩, ⟨is_TooFar, ga_TooFar, gt_TooFar, sb_TooFar, ca_TooFar, gn, tkc, mo_TooFar⟩⟩,
     a_OnLine := a_OnLine,
     i_OnLine := i_OnLine,
     fd_OnLine := _,
     g_OnLine := PySem.W.mg_of X G n_OnLine,
     F_OnLine := fun_mk (st := s_OnLine) l_OnLine c_OnLine kp_OnLine,
     X_OnLine := ⟨⟨⟨_, _, _, _, _, _, _, _, _, _, _, _, _, _, _, o_OnLine, v_OnLine⟩, sa_OnLine, sb_OnLine, ty_OnLine, kc_OnLine⟩, ii_OnLine, ti_OnLine, nf_OnLine, ⟨ga_OnLine, gt_OnLine, sb_OnLine, hd_OnLine⟩, ⟨is_OnLine, ga_OnLine, gt_OnLine, sb_OnLine, ca_OnLine, gn, tkc, mo_OnLine⟩⟩,
     a_WrongCount := a_WrongCount,
     i_WrongCount := i_WrongCount,
     fd_WrongCount := _,
     g_WrongCount := PySem.W.mg_of X G n_WrongCount,
     F_WrongCount := fun_mk (st := s_WrongCount) l_WrongCount c_WrongCount kp_WrongCount,
     X_WrongCount := ⟨⟨⟨_, _, _, _, _, _, _, _, _, _, _, _, _, _, _, o_WrongCount, v_WrongCount⟩, sa_WrongCount, sb_WrongCount, ty_WrongCount, kc_WrongCount⟩, ii_WrongCount, ti_WrongCount, nf_WrongCount, ⟨ga_WrongCount, gt_WrongCount, sb_WrongCount, hd_WrongCount⟩, ⟨is_WrongCount, ga_WrongCount, gt_WrongCount, sb_WrongCount, ca_WrongCount, gn, tkc, mo_WrongCount⟩⟩,
     a_BowlError := a_BowlError,
     g_BowlError := PySem.W.mg_of X G n_BowlError,
     gn := gn,
     tkc := tkc,
     a_Floor := a_Floor,
     mc_Floor := mc_Floor,
     g_Floor := PySem.W.mg_of X G n_Floor,
     C_Floor := ⟨pg_Floor, hd_Floor, po_Floor, sa_Floor⟩,
     cr_Floor := ⟨rd_Floor, gc_Floor⟩,
     n_Floor_points := na_Floor_points,
     u_Floor_LEAST := _,
     cv_Floor_LEAST := ⟨cv_Floor_LEAST, ⟨_, rfl⟩⟩,
     u_Floor_MOST := _,
     cv_Floor_MOST := ⟨cv_Floor_MOST, ⟨_, rfl⟩⟩,
     u_Floor_FAR := _,
     cv_Floor_FAR := ⟨cv_Floor_FAR, ⟨_, rfl⟩⟩,
     ca_Floor := ca_Floor,
     mo_Floor := mo_Floor,
     ki_Floor := EB.kit_refl,
     fd__law_fives := _,
     F__law_fives := fun_mk (st := s__law_fives) l__law_fives c__law_fives kp__law_fives,
     g__law_fives := PySem.W.mg_of X G n__law_fives,
     a__law_fives := a__law_fives,
     fd__law_whole := _,
     F__law_whole := fun_mk (st := s__law_whole) l__law_whole c__law_whole kp__law_whole,
     g__law_whole := PySem.W.mg_of X G n__law_whole,
     a__law_whole := a__law_whole,
     fd_tally := _,
     F_tally := fun_mk (st := s_tally) l_tally c_tally kp_tally,
     g_tally := PySem.W.mg_of X G n_tally,
     a_tally := a_tally,
     fd_Floor___len__ := _,
     F_Floor___len__ := fun_mk (st := s_Floor___len__) l_Floor___len__ c_Floor___len__ kp_Floor___len__,
     m_Floor___len__ := ⟨f_Floor___len__, fi_Floor___len__, kp_Floor___len__⟩,
     a_Floor___len__ := a_Floor___len__,
     fd_others := _,
     F_others := fun_mk (st := s_others) l_others c_others kp_others,
     g_others := PySem.W.mg_of X G n_others,
     a_others := a_others,
     fd_bare_area := _,
     F_bare_area := fun_mk (st := s_bare_area) l_bare_area c_bare_area kp_bare_area,
     g_bare_area := PySem.W.mg_of X G n_bare_area,
     a_bare_area := a_bare_area,
     fd_check_number := _,
     F_check_number := fun_mk (st := s_check_number) l_check_number c_check_number kp_check_number,
     g_check_number := PySem.W.mg_of X G n_check_number,
     a_check_number := a_check_number,
     fd_check_numbers := _,
     F_check_numbers := fun_mk (st := s_check_numbers) l_check_numbers c_check_numbers kp_check_numbers,
     g_check_numbers := PySem.W.mg_of X G n_check_numbers,
     a_check_numbers := a_check_numbers,
     fd_Floor_left_of := _,
     F_Floor_left_of := fun_mk (st := s_Floor_left_of) l_Floor_left_of c_Floor_left_of kp_Floor_left_of,
     m_Floor_left_of := ⟨f_Floor_left_of, fi_Floor_left_of, kp_Floor_left_of⟩,
     a_Floor_left_of := a_Floor_left_of,
     fd_lines_and_lefts := _,
     F_lines_and_lefts := fun_mk (st := s_lines_and_lefts) l_lines_and_lefts c_lines_and_lefts kp_lines_and_lefts,
     g_lines_and_lefts := PySem.W.mg_of X G n_lines_and_lefts,
     a_lines_and_lefts := a_lines_and_lefts,
     fd_line_row := _,
     F_line_row := fun_mk (st := s_line_row) l_line_row c_line_row kp_line_row,
     g_line_row := PySem.W.mg_of X G n_line_row,
     a_line_row := a_line_row,
     fd_check_range := _,
     F_check_range := fun_mk (st := s_check_range) l_check_range c_check_range kp_check_range,
     g_check_range := PySem.W.mg_of X G n_check_range,
     a_check_range := a_check_range,
     fd_choose := _,
     F_choose := fun_mk (st := s_choose) l_choose c_choose kp_choose,
     g_choose := PySem.W.mg_of X G n_choose,
     a_choose := a_choose,
     fd_first_behind := _,
     F_first_behind := fun_mk (st := s_first_behind) l_first_behind c_first_behind kp_first_behind,
     g_first_behind := PySem.W.mg_of X G n_first_behind,
     a_first_behind := a_first_behind,
     fd_subset_list := _,
     F_subset_list := fun_mk (st := s_subset_list) l_subset_list c_subset_list kp_subset_list,
     g_subset_list := PySem.W.mg_of X G n_subset_list,
     a_subset_list := a_subset_list,
     fd_is_within := _,
     F_is_within := fun_mk (st := s_is_within) l_is_within c_is_within kp_is_within,
     g_is_within := PySem.W.mg_of X G n_is_within,
     a_is_within := a_is_within,
     fd_is_around := _,
     F_is_around := fun_mk (st := s_is_around) l_is_around c_is_around kp_is_around,
     g_is_around := PySem.W.mg_of X G n_is_around,
     a_is_around := a_is_around,
     fd_inner_pairs := _,
     F_inner_pairs := fun_mk (st := s_inner_pairs) l_inner_pairs c_inner_pairs kp_inner_pairs,
     g_inner_pairs := PySem.W.mg_of X G n_inner_pairs,
     a_inner_pairs := a_inner_pairs,
     fd_convex_fours := _,
     F_convex_fours := fun_mk (st := s_convex_fours) l_convex_fours c_convex_fours kp_convex_fours,
     g_convex_fours := PySem.W.mg_of X G n_convex_fours,
     a_convex_fours := a_convex_fours,
     fd_check_turns := _,
     F_check_turns := fun_mk (st := s_check_turns) l_check_turns c_check_turns kp_check_turns,
     g_check_turns := PySem.W.mg_of X G n_check_turns,
     a_check_turns := a_check_turns,
     fd_check_point := _,
     F_check_point := fun_mk (st := s_check_point) l_check_point c_check_point kp_check_point,
     g_check_point := PySem.W.mg_of X G n_check_point,
     a_check_point := a_check_point,
     fd_check_count := _,
     F_check_count := fun_mk (st := s_check_count) l_check_count c_check_count kp_check_count,
     g_check_count := PySem.W.mg_of X G n_check_count,
     a_check_count := a_check_count,
     fd_Floor___init__ := _,
     F_Floor___init__ := fun_mk (st := s_Floor___init__) l_Floor___init__ c_Floor___init__ kp_Floor___init__,
     M_Floor := ⟨mk_Floor, f_Floor___init__, fi_Floor___init__, kc_Floor⟩,
     a_Floor___init__ := a_Floor___init__,
     fd_Floor_only := _,
     F_Floor_only := fun_mk (st := s_Floor_only) l_Floor_only c_Floor_only kp_Floor_only,
     m_Floor_only := ⟨f_Floor_only, fi_Floor_only, kp_Floor_only⟩,
     a_Floor_only := a_Floor_only,
     fd__law_five_holds := _,
     F__law_five_holds := fun_mk (st := s__law_five_holds) l__law_five_holds c__law_five_holds kp__law_five_holds,
     g__law_five_holds := PySem.W.mg_of X G n__law_five_holds,
     a__law_five_holds := a__law_five_holds,
     fd__law_order := _,
     F__law_order := fun_mk (st := s__law_order) l__law_order c__law_order kp__law_order,
     g__law_order := PySem.W.mg_of X G n__law_order,
     a__law_order := a__law_order,
     fd__law_cell := _,
     F__law_cell := fun_mk (st := s__law_cell) l__law_cell c__law_cell kp__law_cell,
     g__law_cell := PySem.W.mg_of X G n__law_cell,
     a__law_cell := a__law_cell,
     fd__law_area := _,
     F__law_area := fun_mk (st := s__law_area) l__law_area c__law_area kp__law_area,
     g__law_area := PySem.W.mg_of X G n__law_area,
     a__law_area := a__law_area,
     fd__law_is_within := _,
     F__law_is_within := fun_mk (st := s__law_is_within) l__law_is_within c__law_is_within kp__law_is_within,
     g__law_is_within := PySem.W.mg_of X G n__law_is_within,
     a__law_is_within := a__law_is_within,
     fd__law_pairs := _,
     F__law_pairs := fun_mk (st := s__law_pairs) l__law_pairs c__law_pairs kp__law_pairs,
     g__law_pairs := PySem.W.mg_of X G n__law_pairs,
     a__law_pairs := a__law_pairs,
     fd__law_made := _,
     F__law_made := fun_mk (st := s__law_made) l__law_made c__law_made kp__law_made,
     g__law_made := PySem.W.mg_of X G n__law_made,
     a__law_made := a__law_made,
     fd__law_refusal := _,
     F__law_refusal := fun_mk (st := s__law_refusal) l__law_refusal c__law_refusal kp__law_refusal,
     g__law_refusal := PySem.W.mg_of X G n__law_refusal,
     a__law_refusal := a__law_refusal,
     fd__law_drawn := _,
     F__law_drawn := fun_mk (st := s__law_drawn) l__law_drawn c__law_drawn kp__law_drawn,
     g__law_drawn := PySem.W.mg_of X G n__law_drawn,
     a__law_drawn := a__law_drawn,
     fd_law := _,
     F_law := fun_mk (st := s_law) l_law c_law kp_law,
     g_law := PySem.W.mg_of X G n_law,
     a_law := a_law,
     g_comb := PySem.W.mg_of X G n_comb,
     z_ValueError := PySem.W.mg_none_of X G z_ValueError,
     z_abs := PySem.W.mg_none_of X G z_abs,
     z_bool := PySem.W.mg_none_of X G z_bool,
     z_enumerate := PySem.W.mg_none_of X G z_enumerate,
     z_int := PySem.W.mg_none_of X G z_int,
     z_isinstance := PySem.W.mg_none_of X G z_isinstance,
     z_len := PySem.W.mg_none_of X G z_len,
     z_list := PySem.W.mg_none_of X G z_list,
     z_range := PySem.W.mg_none_of X G z_range,
     z_tuple := PySem.W.mg_none_of X G z_tuple,
     k_WrongCount_BowlError := EB.kit_sub is_BowlError ty_BowlError s_WrongCount_BowlError fun _ => rfl,
     k_WrongCount_ValueError := EB.kit_val s_WrongCount_ValueError,
     k_TooFar_BowlError := EB.kit_sub is_BowlError ty_BowlError s_TooFar_BowlError fun _ => rfl,
     k_TooFar_ValueError := EB.kit_val s_TooFar_ValueError,
     k_OnLine_BowlError := EB.kit_sub is_BowlError ty_BowlError s_OnLine_BowlError fun _ => rfl,
     k_OnLine_ValueError := EB.kit_val s_OnLine_ValueError,
     k_WrongCount_OnLine_TooFar := EB.kit_any2 (EB.kit_off is_OnLine ty_OnLine s_WrongCount_WrongCount s_WrongCount_OnLine) (EB.kit_off is_TooFar ty_TooFar s_WrongCount_WrongCount s_WrongCount_TooFar),
     k_TooFar_OnLine_WrongCount := EB.kit_any2 (EB.kit_off is_OnLine ty_OnLine s_TooFar_TooFar s_TooFar_OnLine) (EB.kit_off is_WrongCount ty_WrongCount s_TooFar_TooFar s_TooFar_WrongCount),
     k_OnLine_TooFar_WrongCount := EB.kit_any2 (EB.kit_off is_TooFar ty_TooFar s_OnLine_OnLine s_OnLine_TooFar) (EB.kit_off is_WrongCount ty_WrongCount s_OnLine_OnLine s_OnLine_WrongCount),
     x_WrongCount_WrongCount := EB.exm_sub sb_WrongCount is_WrongCount ty_WrongCount s_WrongCount_WrongCount,
     x_TooFar_WrongCount := EB.exm_sub sb_WrongCount is_WrongCount ty_WrongCount s_TooFar_WrongCount,
     x_TooFar_TooFar := EB.exm_sub sb_TooFar is_TooFar ty_TooFar s_TooFar_TooFar,
     x_OnLine_WrongCount := EB.exm_sub sb_WrongCount is_WrongCount ty_WrongCount s_OnLine_WrongCount,
     x_OnLine_TooFar := EB.exm_sub sb_TooFar is_TooFar ty_TooFar s_OnLine_TooFar,
     x_OnLine_OnLine := EB.exm_sub sb_OnLine is_OnLine ty_OnLine s_OnLine_OnLine }, PySem.W.mg_of X G n_law⟩
end K12

namespace K12
open PySem PySem.Spec PyProof.Rows L2 Evl EB
theorem ok_WrongCount {P : Program} {w : World} {K : PySem.W.Frag} {mg : Str → Option Value} {base : Heap} (T : Tx K mg) : FnOk P w K mg base CX0 1 T.i_WrongCount T.fd_WrongCount ["self", "count"] (spErr T.a_WrongCount "count") := by
  refine T.F_WrongCount.ok sc_WrongCount (fun vs H Q E h => by obtain ⟨a, u, rfl, _⟩ := h; rfl) (fun cdv A outer s H vs Q E hr h => ?_)
  obtain ⟨a, u, rfl, ha, k⟩ := h
  refine ⟨_, pss_one (ps_ost (pv 0) (pv 1)), ?_⟩
  exact ⟨_, rfl, _, rfl, a, T.a_WrongCount, rfl, T.X_WrongCount.ox, T.X_WrongCount.nf, .inl ⟨ha, k⟩⟩
theorem ok_TooFar {P : Program} {w : World} {K : PySem.W.Frag} {mg : Str → Option Value} {base : Heap} (T : Tx K mg) : FnOk P w K mg base CX0 1 T.i_TooFar T.fd_TooFar ["self", "value"] (spErr T.a_TooFar "value") := by
  refine T.F_TooFar.ok sc_TooFar (fun vs H Q E h => by obtain ⟨a, u, rfl, _⟩ := h; rfl) (fun cdv A outer s H vs Q E hr h => ?_)
  obtain ⟨a, u, rfl, ha, k⟩ := h
  refine ⟨_, pss_one (ps_ost (pv 0) (pv 1)), ?_⟩
  exact ⟨_, rfl, _, rfl, a, T.a_TooFar, rfl, T.X_TooFar.ox, T.X_TooFar.nf, .inl ⟨ha, k⟩⟩
theorem ok_NoPoint {P : Program} {w : World} {K : PySem.W.Frag} {mg : Str → Option Value} {base : Heap} (T : Tx K mg) : FnOk P w K mg base CX0 1 T.i_NoPoint T.fd_NoPoint ["self", "number"] (spErr T.a_NoPoint "number") := by
  refine T.F_NoPoint.ok sc_NoPoint (fun vs H Q E h => by obtain ⟨a, u, rfl, _⟩ := h; rfl) (fun cdv A outer s H vs Q E hr h => ?_)
  obtain ⟨a, u, rfl, ha, k⟩ := h
  refine ⟨_, pss_one (ps_ost (pv 0) (pv 1)), ?_⟩
  exact ⟨_, rfl, _, rfl, a, T.a_NoPoint, rfl, T.X_NoPoint.ox, T.X_NoPoint.nf, .inl ⟨ha, k⟩⟩
theorem ok_Repeated {P : Program} {w : World} {K : PySem.W.Frag} {mg : Str → Option Value} {base : Heap} (T : Tx K mg) : FnOk P w K mg base CX0 1 T.i_Repeated T.fd_Repeated ["self", "number"] (spErr T.a_Repeated "number") := by
  refine T.F_Repeated.ok sc_Repeated (fun vs H Q E h => by obtain ⟨a, u, rfl, _⟩ := h; rfl) (fun cdv A outer s H vs Q E hr h => ?_)
  obtain ⟨a, u, rfl, ha, k⟩ := h
  refine ⟨_, pss_one (ps_ost (pv 0) (pv 1)), ?_⟩
  exact ⟨_, rfl, _, rfl, a, T.a_Repeated, rfl, T.X_Repeated.ox, T.X_Repeated.nf, .inl ⟨ha, k⟩⟩
theorem ok_OnLine {P : Program} {w : World} {K : PySem.W.Frag} {mg : Str → Option Value} {base : Heap} (T : Tx K mg) : FnOk P w K mg base CX0 1 T.i_OnLine T.fd_OnLine ["self", "numbers"] (spErr T.a_OnLine "numbers") := by
  refine T.F_OnLine.ok sc_OnLine (fun vs H Q E h => by obtain ⟨a, u, rfl, _⟩ := h; rfl) (fun cdv A outer s H vs Q E hr h => ?_)
  obtain ⟨a, u, rfl, ha, k⟩ := h
  refine ⟨_, pss_one (ps_ost (pv 0) (pv 1)), ?_⟩
  exact ⟨_, rfl, _, rfl, a, T.a_OnLine, rfl, T.X_OnLine.ox, T.X_OnLine.nf, .inl ⟨ha, k⟩⟩
def inR (lo v hi : Int) : Bool := decide (lo ≤ v) && decide (v ≤ hi)
def sq (b : Bool) (ds : List PyData) : PyData := if b then .list ds else .tuple ds
section
variable {K : PySem.W.Frag}
def args_check_range {K : PySem.W.Frag} {mg : Str → Option Value} (T : Tx K mg) : Int × Int × Int → List PV := fun a => [dv K (.int a.1), dv K (.int a.2.1), dv K (.int a.2.2)]
def dom_check_range : Int × Int × Int → Prop := fun _ => True
def out_check_range {K : PySem.W.Frag} {mg : Str → Option Value} (T : Tx K mg) : Int × Int × Int → Out := fun a => match inR a.2.1 a.1 a.2.2 with | true => .ok (dv K .none) | false => .er ⟨.TooFar, .int a.1⟩
end
theorem ok_check_range {P : Program} {w : World} {K : PySem.W.Frag} {mg : Str → Option Value} {base : Heap} (T : Tx K mg) : FnOk P w K mg base (L2.CX P w) 3 T.a_check_range T.fd_check_range ["value", "least", "most"] (Prm K T.M (args_check_range T) dom_check_range (out_check_range T)) := by
  refine T.F_check_range.okX sc_check_range (fun vs H Q E h => by obtain ⟨a, F, _, al, _⟩ := h; exact al.length) (fun cdv A outer s H vs Q E hr h => ?_)
  have tk : Takes (cxOf (L2.CX P w) P w K mg base N_check_range "check_range" (defScope s_check_range) T.a_check_range cdv A outer s H E) (fun cls d _ H => E cls d H) := takes_of rfl rfl rfl rfl
  obtain ⟨a, F, fh, al, hd, th⟩ := h
  refine ⟨_, (pss_one (ps_if (pt_not (pt_chain op_le op_le (pv 1) (pv 0) (pv 2))) (pss_one (ps_raise rfl tk (pmk_oex (T.X_TooFar).ox (T.X_TooFar).iC (T.X_TooFar).tI (ok_TooFar T) (hr.mono (by decide)) (b_TooFar T) .nil pass0 (by rfl) T.g_TooFar (pa_cons (pv 0) pa_nil)))) pss_nil)), ?_⟩
  cases hb : inR a.2.1 a.1 a.2.2 with
  | true =>
    refine fin_ok (r := .nx _) (js_if (b := false) (jt_is (jt_not (jt_test (je_chainI (je_var rfl) (je_var rfl) (je_var rfl)))) ?_) (fun z => Bool.noConfusion z) (fun _ => js_next)) ?_ fh al th
    · show (!inR a.2.1 a.1 a.2.2) = false
      rw [hb] <;> rfl
    · show Fin K _ (out_check_range T a)
      unfold out_check_range
      rw [hb] <;> rfl
  | false =>
    refine fin_ok (r := .er ⟨.TooFar, .int a.1⟩) (js_if (b := true) (jt_is (jt_not (jt_test (je_chainI (je_var rfl) (je_var rfl) (je_var rfl)))) ?_) (fun _ => js_raise (M := T.M) (c := .TooFar) (ja_cons (je_var rfl) ja_nil)) (fun z => Bool.noConfusion z)) ?_ fh al th
    · show (!inR a.2.1 a.1 a.2.2) = true
      rw [hb] <;> rfl
    · show Fin K _ (out_check_range T a)
      unfold out_check_range
      rw [hb] <;> rfl
end K12

namespace K12
open PySem PySem.Spec PyProof.Rows L2 Evl EB
/-! ### check_count -/
def args_check_count {K : PySem.W.Frag} {mg : Str → Option Value} (T : Tx K mg) : Bool × List PyData × Int × Int → List PV := fun a => [dv K (sq a.1 a.2.1), dv K (.int a.2.2.1), dv K (.int a.2.2.2)]
def dom_check_count : Bool × List PyData × Int × Int → Prop := fun _ => True
def out_check_count {K : PySem.W.Frag} {mg : Str → Option Value} (T : Tx K mg) : Bool × List PyData × Int × Int → Out := fun a => match inR a.2.2.1 a.2.1.length a.2.2.2 with | true => .ok (dv K .none) | false => .er ⟨.WrongCount, .int a.2.1.length⟩
theorem je_lenQ {K : PySem.W.Frag} {M : EC → Addr} {W : WX} {ps : Kn} {te : TE} {b : Bool} {ds : List PyData} (h : JD K M W te ps (sq b ds)) : JD K M W (tCB (rLenS K) (tCons te tNil)) ps (.int ds.length) := by
  cases b with
  | true => exact je_lenL h
  | false => exact je_lenT h
theorem ok_check_count {P : Program} {w : World} {K : PySem.W.Frag} {mg : Str → Option Value} {base : Heap} (T : Tx K mg) : FnOk P w K mg base (L2.CX P w) 3 T.a_check_count T.fd_check_count ["members", "least", "most"] (Prm K T.M (args_check_count T) dom_check_count (out_check_count T)) := by
  refine T.F_check_count.okX sc_check_count (fun vs H Q E h => by obtain ⟨a, F, _, al, _⟩ := h; exact al.length) (fun cdv A outer s H vs Q E hr h => ?_)
  have tk : Takes (cxOf (L2.CX P w) P w K mg base N_check_count "check_count" (defScope s_check_count) T.a_check_count cdv A outer s H E) (fun cls d _ H => E cls d H) := takes_of rfl rfl rfl rfl
  obtain ⟨a, F, fh, al, hd, th⟩ := h
  refine ⟨_, (pss_one (ps_if (pt_not (pt_chain op_le op_le (pv 1) (pe_callB call_len_seq (by rfl) T.z_len PySem.boot_len (pa_cons (pv 0) pa_nil)) (pv 2))) (pss_one (ps_raise rfl tk (pmk_oex (T.X_WrongCount).ox (T.X_WrongCount).iC (T.X_WrongCount).tI (ok_WrongCount T) (hr.mono (by decide)) (b_WrongCount T) .nil pass0 (by rfl) T.g_WrongCount (pa_cons (pe_callB call_len_seq (by rfl) T.z_len PySem.boot_len (pa_cons (pv 0) pa_nil)) pa_nil)))) pss_nil)), ?_⟩
  cases hb : inR a.2.2.1 a.2.1.length a.2.2.2 with
  | true =>
    refine fin_ok (r := .nx _) (js_if (b := false) (jt_is (jt_not (jt_test (je_chainI (je_var rfl) (je_lenQ (je_var rfl)) (je_var rfl)))) ?_) (fun z => Bool.noConfusion z) (fun _ => js_next)) ?_ fh al th
    · show (!inR a.2.2.1 a.2.1.length a.2.2.2) = false
      rw [hb] <;> rfl
    · show Fin K _ (out_check_count T a)
      unfold out_check_count
      rw [hb] <;> rfl
  | false =>
    refine fin_ok (r := .er ⟨.WrongCount, .int a.2.1.length⟩) (js_if (b := true) (jt_is (jt_not (jt_test (je_chainI (je_var rfl) (je_lenQ (je_var rfl)) (je_var rfl)))) ?_) (fun _ => js_raise (M := T.M) (c := .WrongCount) (ja_cons (je_lenQ (je_var rfl)) ja_nil)) (fun z => Bool.noConfusion z)) ?_ fh al th
    · show (!inR a.2.2.1 a.2.1.length a.2.2.2) = true
      rw [hb] <;> rfl
    · show Fin K _ (out_check_count T a)
      unfold out_check_count
      rw [hb] <;> rfl
/-! ### check_number -/
def isNo (k : Int) (n : Int) : Bool := decide (0 ≤ k) && decide (k < n)
def args_check_number {K : PySem.W.Frag} {mg : Str → Option Value} (T : Tx K mg) : Int × Int → List PV := fun a => [dv K (.int a.1), dv K (.int a.2)]
def dom_check_number : Int × Int → Prop := fun _ => True
def out_check_number {K : PySem.W.Frag} {mg : Str → Option Value} (T : Tx K mg) : Int × Int → Out := fun a => match isNo a.1 a.2 with | true => .ok (dv K .none) | false => .er ⟨.NoPoint, .int a.1⟩
theorem ok_check_number {P : Program} {w : World} {K : PySem.W.Frag} {mg : Str → Option Value} {base : Heap} (T : Tx K mg) : FnOk P w K mg base (L2.CX P w) 3 T.a_check_number T.fd_check_number ["number", "n"] (Prm K T.M (args_check_number T) dom_check_number (out_check_number T)) := by
  refine T.F_check_number.okX sc_check_number (fun vs H Q E h => by obtain ⟨a, F, _, al, _⟩ := h; exact al.length) (fun cdv A outer s H vs Q E hr h => ?_)
  have tk : Takes (cxOf (L2.CX P w) P w K mg base N_check_number "check_number" (defScope s_check_number) T.a_check_number cdv A outer s H E) (fun cls d _ H => E cls d H) := takes_of rfl rfl rfl rfl
  obtain ⟨a, F, fh, al, hd, th⟩ := h
  refine ⟨_, (pss_one (ps_if (pt_not (pt_chain op_le op_lt pe_int (pv 0) (pv 1))) (pss_one (ps_raise rfl tk (pmk_oex (T.X_NoPoint).ox (T.X_NoPoint).iC (T.X_NoPoint).tI (ok_NoPoint T) (hr.mono (by decide)) (b_NoPoint T) .nil pass0 (by rfl) T.g_NoPoint (pa_cons (pv 0) pa_nil)))) pss_nil)), ?_⟩
  cases hb : isNo a.1 a.2 with
  | true =>
    refine fin_ok (r := .nx _) (js_if (b := false) (jt_is (jt_not (jt_test (je_chainI je_int (je_var rfl) (je_var rfl)))) ?_) (fun z => Bool.noConfusion z) (fun _ => js_next)) ?_ fh al th
    · show (!isNo a.1 a.2) = false
      rw [hb] <;> rfl
    · show Fin K _ (out_check_number T a)
      unfold out_check_number
      rw [hb] <;> rfl
  | false =>
    refine fin_ok (r := .er ⟨.NoPoint, .int a.1⟩) (js_if (b := true) (jt_is (jt_not (jt_test (je_chainI je_int (je_var rfl) (je_var rfl)))) ?_) (fun _ => js_raise (M := T.M) (c := .NoPoint) (ja_cons (je_var rfl) ja_nil)) (fun z => Bool.noConfusion z)) ?_ fh al th
    · show (!isNo a.1 a.2) = true
      rw [hb] <;> rfl
    · show Fin K _ (out_check_number T a)
      unfold out_check_number
      rw [hb] <;> rfl
/-! ### sign_of, bare_area -/
def sgn (v : Int) : Int := if v > 0 then 1 else if v < 0 then -1 else 0
def args_sign_of {K : PySem.W.Frag} {mg : Str → Option Value} (T : Tx K mg) : Int → List PV := fun a => [dv K (.int a)]
def dom_sign_of : Int → Prop := fun _ => True
def out_sign_of {K : PySem.W.Frag} {mg : Str → Option Value} (T : Tx K mg) : Int → Out := fun a => .ok (dv K (.int (sgn a)))
def area (p q r : Int × Int) : Int := (q.1 - p.1) * (r.2 - p.2) - (q.2 - p.2) * (r.1 - p.1)
def near (p : Int × Int) : Prop := (-(2 ^ 62) ≤ p.1 ∧ p.1 ≤ 2 ^ 62) ∧ (-(2 ^ 62) ≤ p.2 ∧ p.2 ≤ 2 ^ 62)
def args_bare_area {K : PySem.W.Frag} {mg : Str → Option Value} (T : Tx K mg) : (Int × Int) × (Int × Int) × (Int × Int) → List PV := fun a => [dv K (pD a.1), dv K (pD a.2.1), dv K (pD a.2.2)]
def dom_bare_area : (Int × Int) × (Int × Int) × (Int × Int) → Prop := fun a => near a.1 ∧ near a.2.1 ∧ near a.2.2
def out_bare_area {K : PySem.W.Frag} {mg : Str → Option Value} (T : Tx K mg) : (Int × Int) × (Int × Int) × (Int × Int) → Out := fun a => .ok (dv K (.int (area a.1 a.2.1 a.2.2)))
theorem je_x0 {K : PySem.W.Frag} {M : EC → Addr} {W : WX} {ps : Kn} {te : TE} {p : Int × Int} (h : JD K M W te ps (pD p)) : JD K M W (tOp (rIxT K) te (tC (.int 0))) ps (.int p.1) := je_ixT h je_int rfl
theorem je_y1 {K : PySem.W.Frag} {M : EC → Addr} {W : WX} {ps : Kn} {te : TE} {p : Int × Int} (h : JD K M W te ps (pD p)) : JD K M W (tOp (rIxT K) te (tC (.int 1))) ps (.int p.2) := je_ixT h je_int rfl
theorem near_mul {a b : Int} (h : -(2 ^ 63) ≤ a ∧ a ≤ 2 ^ 63) : CMul a b := .inl ⟨by omega, by omega⟩
theorem ok_bare_area {P : Program} {w : World} {K : PySem.W.Frag} {mg : Str → Option Value} {base : Heap} (T : Tx K mg) : FnOk P w K mg base (L2.CX P w) 1 T.a_bare_area T.fd_bare_area ["p", "q", "r"] (Prm K T.M (args_bare_area T) dom_bare_area (out_bare_area T)) := by
  refine T.F_bare_area.okX sc_bare_area (fun vs H Q E h => by obtain ⟨a, F, _, al, _⟩ := h; exact al.length) (fun cdv A outer s H vs Q E hr h => ?_)
  have tk : Takes (cxOf (L2.CX P w) P w K mg base N_bare_area "bare_area" (defScope s_bare_area) T.a_bare_area cdv A outer s H E) (fun cls d _ H => E cls d H) := takes_of rfl rfl rfl rfl
  obtain ⟨a, F, fh, al, hd, th⟩ := h
  refine ⟨_, (pss_one (ps_ret (pe_op op_sub (pe_op op_mul (pe_op op_sub (pe_ix ix_tup (pv 1) pe_int (fun _ _ => rfl)) (pe_ix ix_tup (pv 0) pe_int (fun _ _ => rfl))) (pe_op op_sub (pe_ix ix_tup (pv 2) pe_int (fun _ _ => rfl)) (pe_ix ix_tup (pv 0) pe_int (fun _ _ => rfl)))) (pe_op op_mul (pe_op op_sub (pe_ix ix_tup (pv 1) pe_int (fun _ _ => rfl)) (pe_ix ix_tup (pv 0) pe_int (fun _ _ => rfl))) (pe_op op_sub (pe_ix ix_tup (pv 2) pe_int (fun _ _ => rfl)) (pe_ix ix_tup (pv 0) pe_int (fun _ _ => rfl))))))), ?_⟩
  obtain ⟨p, q, r⟩ := a
  obtain ⟨⟨hp1, hp2⟩, ⟨hq1, hq2⟩, hr1, hr2⟩ := hd
  simp only at hp1 hp2 hq1 hq2 hr1 hr2
  exact fin_ok (r := .rt _) (js_ret (je_sub (je_mul (je_sub (je_x0 (je_var rfl)) (je_x0 (je_var rfl))) (je_sub (je_y1 (je_var rfl)) (je_y1 (je_var rfl))) (near_mul (by first | omega | (dsimp only; omega)))) (je_mul (je_sub (je_y1 (je_var rfl)) (je_y1 (je_var rfl))) (je_sub (je_x0 (je_var rfl)) (je_x0 (je_var rfl))) (near_mul (by first | omega | (dsimp only; omega)))))) (by exact rfl) fh al th
end K12

namespace K12
open PySem PySem.Spec PyProof.Rows L2 Evl EB
/-! ### subset_list -/
def fb (x : List Int) : Int := match x.getLast? with
  | some k => k + 1
  | none => 0
def subsL (n : Int) : Nat → List (List Int)
  | 0 => [[]]
  | s + 1 => (subsL n s).flatMap fun x => (rg (fb x) (n - fb x).toNat).map fun k => x ++ [k]
def tupI (x : List Int) : PyData := .tuple (x.map .int)
def args_first_behind {K : PySem.W.Frag} {mg : Str → Option Value} (T : Tx K mg) : List Int → List PV := fun x => [dv K (tupI x)]
def dom_first_behind : List Int → Prop := fun _ => True
def out_first_behind {K : PySem.W.Frag} {mg : Str → Option Value} (T : Tx K mg) : List Int → Out := fun x => .ok (dv K (.int (fb x)))
theorem last_at (x : List Int) (k : Int) (h : x.getLast? = some k) : atI (x.map PyData.int) (-1) = some (.int k) := by
  have hx : x = x.dropLast ++ [k] := by
    have hne : x ≠ [] := fun z => by subst z; cases h
    rw [List.getLast?_eq_some_getLast hne] at h
    have := List.dropLast_concat_getLast hne
    rw [Option.some.inj h] at this
    exact this.symm
  rw [hx, List.map_append]
  exact atI_last _ _
theorem ok_first_behind {P : Program} {w : World} {K : PySem.W.Frag} {mg : Str → Option Value} {base : Heap} (T : Tx K mg) : FnOk P w K mg base (L2.CX P w) 1 T.a_first_behind T.fd_first_behind ["part"] (Prm K T.M (args_first_behind T) dom_first_behind (out_first_behind T)) := by
  refine T.F_first_behind.okX sc_first_behind (fun vs H Q E h => by obtain ⟨a, F, _, al, _⟩ := h; exact al.length) (fun cdv A outer s H vs Q E hr h => ?_)
  have tk : Takes (cxOf (L2.CX P w) P w K mg base N_first_behind "first_behind" (defScope s_first_behind) T.a_first_behind cdv A outer s H E) (fun cls d _ H => E cls d H) := takes_of rfl rfl rfl rfl
  obtain ⟨a, F, fh, al, hd, th⟩ := h
  refine ⟨_, (pss_one (ps_ret (pe_ifExp (pt_truth (pv 0) (by intro _; rfl)) (pe_op op_add (pe_ix ix_tup (pv 0) (pe_un un_neg pe_int) (fun _ _ => rfl)) pe_int) pe_int))), ?_⟩
  refine fin_ok (r := .rt (dv K (.int (fb a)))) (js_ret (je_if (jt_truT (ds := a.map .int) (je_var rfl)) (fun z => ?_) (fun z => ?_))) (by exact rfl) fh al th
  · cases hl : a.getLast? with
    | none =>
      rw [List.getLast?_eq_none_iff] at hl
      subst hl
      simp at z
    | some k =>
      rw [show fb a = k + 1 by unfold fb; rw [hl]]
      exact je_add (je_ixT (ds := a.map .int) (je_var rfl) (je_neg je_int) (last_at a k hl)) je_int
  · have e : a = [] := by
      cases a with
      | nil => rfl
      | cons x r => simp at z
    subst e
    exact je_int
def args_subset_list {K : PySem.W.Frag} {mg : Str → Option Value} (T : Tx K mg) : Nat × Nat → List PV := fun a => [dv K (.int a.1), dv K (.int a.2)]
def dom_subset_list : Nat × Nat → Prop := fun a => a.1 ≤ 10 ∧ a.2 ≤ 4
def out_subset_list {K : PySem.W.Frag} {mg : Str → Option Value} (T : Tx K mg) : Nat × Nat → Out := fun a => .ok (dv K (.list ((subsL a.1 a.2).map tupI)))
theorem subs_len {n : Int} : ∀ {s : Nat} {x : List Int}, x ∈ subsL n s → x.length = s
  | 0, x, h => by
    have e : x = [] := by simpa [subsL] using h
    subst e
    rfl
  | s + 1, x, h => by
    obtain ⟨y, hy, hx⟩ := List.mem_flatMap.mp h
    obtain ⟨k, _, e⟩ := List.mem_map.mp hx
    rw [← e, List.length_append, subs_len hy]
    rfl
theorem subs_small : ∀ n : Nat, n < 11 → ∀ s : Nat, s < 5 → ((subsL n s).length ≤ 300 ∧ (subsL n s).all (fun x => decide (0 ≤ fb x ∧ fb x ≤ n)) = true) := by decide +kernel
theorem subs_next (n : Int) (s : Nat) : ((subsL n s).flatMap fun x => ((rg (fb x) (n - fb x).toNat).filter fun _ => true).map fun k => tupI (x ++ [k])) = (subsL n (s + 1)).map tupI := by
  show _ = ((subsL n s).flatMap fun x => (rg (fb x) (n - fb x).toNat).map fun k => x ++ [k]).map tupI
  rw [List.map_flatMap]
  congr 1
  funext x
  rw [List.map_map, List.filter_eq_self.mpr (fun _ _ => rfl)]
  rfl
theorem ok_subset_list {P : Program} {w : World} {K : PySem.W.Frag} {mg : Str → Option Value} {base : Heap} (T : Tx K mg) : FnOk P w K mg base (L2.CX P w) 2 T.a_subset_list T.fd_subset_list ["n", "size"] (Prm K T.M (args_subset_list T) dom_subset_list (out_subset_list T)) := by
  refine T.F_subset_list.okX sc_subset_list (fun vs H Q E h => by obtain ⟨a, F, _, al, _⟩ := h; exact al.length) (fun cdv A outer s H vs Q E hr h => ?_)
  have tk : Takes (cxOf (L2.CX P w) P w K mg base N_subset_list "subset_list" (defScope s_subset_list) T.a_subset_list cdv A outer s H E) (fun cls d _ H => E cls d H) := takes_of rfl rfl rfl rfl
  obtain ⟨a, F, fh, al, hd, th⟩ := h
  refine ⟨_, (pss_cons (ps_set (i := 2) sc_subset_list.nd rfl (by first | exact Or.inl rfl | exact Or.inr rfl) (pe_lst (pa_cons (pe_tup pa_nil) pa_nil)))
      (pss_cons (ps_for (passes_of rfl) rfl (pi_range1 (by rfl) T.z_range (pa_cons (pv 1) pa_nil)) (pg_name (i := 3) sc_subset_list.nd rfl (by first | exact Or.inl rfl | exact Or.inr rfl)) (pss_one (ps_setLc2 (i := 2) (own := [("part", 4), ("k", 5)]) (g := (gName 4)) (tt := tYes) (te := (tTup (StX.tStar K (tVar 4) (tCons (tVar 5) tNil)))) (wi1 := (iRng2 (tCons (tCallS (Prm K T.M (args_first_behind T) dom_first_behind (out_first_behind T)) (WE fun _ _ _ _ => False) (tCons (tVar 4) tNil)) (tCons (tVar 0) tNil)))) (g1 := (gName 5)) (tt1 := tYes) (vs1 := [5]) rfl sc_subset_list.nd rfl rfl (sw_true rfl rfl rfl (by decide +kernel)) (pi_list (pv 2)) (blkOk_by (N := N_subset_list) (sc := defScope s_subset_list) (own := [("part", 4), ("k", 5)]) (by decide +kernel)) (by decide) (fun _ _ _ _ _ => (pg_name (i := 4) sc_subset_list.nd rfl (by first | exact Or.inl rfl | exact Or.inr rfl))) (fun _ _ _ _ _ => by exact pts_nil) (fun _ _ _ _ _ => by exact (pi_range2 (by rfl) T.z_range (pa_cons (pe_callS (ok_first_behind T) (hr.mono (by decide)) (by rfl) T.g_first_behind T.F_first_behind.kp (b_first_behind T) (fun σ => passAt takes0 σ) (pa_cons (pv 4) pa_nil)) (pa_cons (pv 0) pa_nil)))) (fun _ _ _ _ _ => (pg_name (i := 5) sc_subset_list.nd rfl (by first | exact Or.inl rfl | exact Or.inr rfl))) (fun _ _ _ _ _ => pts_nil) (fun _ _ _ _ _ => by exact (pe_tup (StX.pa_star (pv 4) (pa_cons (pv 5) pa_nil)))))))
      (pss_one (ps_ret (pv 2))))), ?_⟩
  obtain ⟨n, size⟩ := a
  obtain ⟨hn, hs⟩ := hd
  simp only at hn hs
  refine fin_ok (r := .rt (dv K (.list ((subsL n size).map tupI)))) (js_seq (js_set (P := dv K (.list ((subsL n 0).map tupI))) (je_lst (ds := [tupI []]) (ja_cons (je_tup (ds := []) ja_nil) ja_nil))) (js_seq
    (js_for (vs := [3]) (fun i => [some (dv K (.int n)), some (dv K (.int size)), some (dv K (.list ((subsL n i).map tupI))), none, none, none]) size (ji_is (ji_rng1 (ja_cons (je_var rfl) ja_nil) ⟨by omega, by omega⟩) (es := (rg 0 size).map PyData.int) (by simp)) rfl (by rw [List.length_map, rg_length]; exact Nat.le_refl _) (fun i d hi hd => ?_) (.inl ⟨by rw [List.length_map, rg_length], rfl⟩))
    (js_ret (je_var rfl)))) (by exact rfl) fh al th
  have hb := subs_small n (by omega) i (by omega)
  have hb2 := subs_small n (by omega) (i + 1) (by omega)
  refine ⟨_, jg_name, .inl (js_weak (js_set (P := dv K (.list ((subsL n (i + 1)).map tupI))) ?_) ⟨.inr rfl, .inr rfl, .inr rfl, .inl rfl, .inr rfl, .inr rfl, trivial⟩)⟩
  rw [← subs_next]
  refine je_lc2 (W' := fun _ _ _ _ => False) (subsL n i) (fun x => rg (fb x) ((n : Int) - fb x).toNat) tupI .int (fun _ _ => true) (fun x k => tupI (x ++ [k])) (ji_list (je_var rfl)) ?_ fun x hx => ?_
  · rw [subs_next, List.length_map]
    omega
  · have hx2 := of_decide_eq_true (List.all_eq_true.mp hb.2 x hx)
    refine ⟨_, jg_name, jt_yes, ji_rng2 (ja_cons (je_call x (ja_cons (je_var rfl) ja_nil) trivial) (ja_cons (je_var rfl) ja_nil)) ⟨by omega, by omega, by omega, by omega⟩, fun k hk => ⟨_, jg_name, jt_yes, fun _ => ?_⟩⟩
    refine je_tup (ds := (x ++ [k]).map .int) (ja_is (ja_starT (ds := x.map .int) (je_var rfl) (ja_cons (je_var rfl) ja_nil)) ?_) ?_
    · simp
    · have hx3 : x.length = i := subs_len hx
      rw [List.length_map, List.length_append]
      simp
      omega
theorem ji_enumQ {K : PySem.W.Frag} {M : EC → Addr} {W : WX} {ps : Kn} {te : TE} {b : Bool} {ds : List PyData} (h : JD K M W te ps (sq b ds)) : JI K M W (iEnumQ K (tCons te tNil)) ps (nb ds) := by
  cases b with
  | true => exact fun σ F H R fh S k => .inl (ji_enum h σ F H R fh S k)
  | false => exact fun σ F H R fh S k => .inr (ji_enumT h σ F H R fh S k)
theorem je_inQ {K : PySem.W.Frag} {M : EC → Addr} {W : WX} {ps : Kn} {ta tb : TE} {b : Bool} {i : Int} {ns : List Int} (ha : JD K M W ta ps (.int i)) (hb : JD K M W tb ps (sq b (ns.map .int))) : JD K M W (tOp (rIn K false) ta tb) ps (.bool (ns.contains i)) := by
  cases b with
  | true => exact je_inL ha hb
  | false => exact je_inT ha hb
theorem je_slQ {K : PySem.W.Frag} {M : EC → Addr} {W : WX} {ps : Kn} {te : TE} {tl th : TO} {lo hi : Option Int} {b : Bool} {ds : List PyData} (h : JD K M W te ps (sq b ds)) (h1 : JO K M W tl ps lo) (h2 : JO K M W th ps hi) : JD K M W (tSl (rSlQ K) te tl th) ps (sq b (cutD ds lo hi)) := by
  cases b with
  | true => exact je_slQL h h1 h2
  | false => exact je_slQT h h1 h2
/-! ### check_numbers, check_point, check_turns -/
/-- what the check says of the k-th number -/
def badNo (n : Int) (ns : List Int) (k : Nat) : Option Er := match ns[k]? with
  | none => none
  | some i => match isNo i n with
    | false => some ⟨.NoPoint, .int i⟩
    | true => match (ns.take k).contains i with
      | true => some ⟨.Repeated, .int i⟩
      | false => none
def badNos (n : Int) (ns : List Int) : Option Er := (List.range ns.length).findSome? (badNo n ns)
def outE (K : PySem.W.Frag) : Option Er → Out
  | none => .ok (dv K .none)
  | some e => .er e
def args_check_numbers {K : PySem.W.Frag} {mg : Str → Option Value} (T : Tx K mg) : Bool × List Int × Int → List PV := fun a => [dv K (sq a.1 (a.2.1.map .int)), dv K (.int a.2.2)]
def dom_check_numbers : Bool × List Int × Int → Prop := fun a => a.2.1.length ≤ 1000
def out_check_numbers {K : PySem.W.Frag} {mg : Str → Option Value} (T : Tx K mg) : Bool × List Int × Int → Out := fun a => outE K (badNos a.2.2 a.2.1)
theorem first_er {n : Nat} {c : Nat → Option Er} : (List.range n).findSome? (fun i => (c i).map Out.er) = ((List.range n).findSome? c).map Out.er := by
  induction n with
  | zero => rfl
  | succ n ih =>
    rw [List.range_succ, List.findSome?_append, List.findSome?_append, ih]
    cases (List.range n).findSome? c with
    | some e => rfl
    | none =>
      simp only [Option.map_none, Option.none_or, List.findSome?_cons, List.findSome?_nil]
      cases c n <;> rfl
/-- the end of a def that only checks -/
theorem fin_chk {K : PySem.W.Frag} {ps : Kn} : ∀ o : Option Er, Fin K (ends ps (o.map Out.er)) (outE K o)
  | none => rfl
  | some _ => rfl
theorem ok_check_numbers {P : Program} {w : World} {K : PySem.W.Frag} {mg : Str → Option Value} {base : Heap} (T : Tx K mg) : FnOk P w K mg base (L2.CX P w) 4 T.a_check_numbers T.fd_check_numbers ["numbers", "n"] (Prm K T.M (args_check_numbers T) dom_check_numbers (out_check_numbers T)) := by
  refine T.F_check_numbers.okX sc_check_numbers (fun vs H Q E h => by obtain ⟨a, F, _, al, _⟩ := h; exact al.length) (fun cdv A outer s H vs Q E hr h => ?_)
  have tk : Takes (cxOf (L2.CX P w) P w K mg base N_check_numbers "check_numbers" (defScope s_check_numbers) T.a_check_numbers cdv A outer s H E) (fun cls d _ H => E cls d H) := takes_of rfl rfl rfl rfl
  obtain ⟨a, F, fh, al, hd, th⟩ := h
  refine ⟨_, (pss_one (ps_for (passes_of rfl) rfl (pi_enumQ (by rfl) T.z_enumerate (pa_cons (pv 0) pa_nil)) (pg_tup rfl (pgs_cons (pg_name (i := 2) sc_check_numbers.nd rfl (by first | exact Or.inl rfl | exact Or.inr rfl)) (pgs_cons (pg_name (i := 3) sc_check_numbers.nd rfl (by first | exact Or.inl rfl | exact Or.inr rfl)) pgs_nil))) (pss_cons (ps_expr (pe_callS (ok_check_number T) (hr.mono (by decide)) (by rfl) T.g_check_number T.F_check_number.kp (b_check_number T) (fun σ => passAt tk σ) (pa_cons (pv 3) (pa_cons (pv 1) pa_nil))))
      (pss_one (ps_if (pt_cmpR op_in_seq (pv 3) (pe_slice (SlR.or sl_list sl_tupA) (pv 0) po_none (po_some (pv 2))) (by rfl)) (pss_one (ps_raise rfl tk (pmk_oex (T.X_Repeated).ox (T.X_Repeated).iC (T.X_Repeated).tI (ok_Repeated T) (hr.mono (by decide)) (b_Repeated T) .nil pass0 (by rfl) T.g_Repeated (pa_cons (pv 3) pa_nil)))) pss_nil))))), ?_⟩
  obtain ⟨sb, ns, n⟩ := a
  refine fin_ok (r := ends (entry N_check_numbers (args_check_numbers T (sb, ns, n))) ((badNos n ns).map Out.er)) ?_ (fin_chk _) fh al th
  unfold badNos
  rw [← first_er, show ns.length = (nb (ns.map PyData.int)).length by rw [nb_length, List.length_map]]
  refine js_search (vs := [2, 3]) (fun i => (badNo n ns i).map Out.er) (ji_enumQ (b := sb) (ds := ns.map .int) (je_var rfl)) fun i d hi => ?_
  have hl : i < ns.length := by
    have := (List.getElem?_eq_some_iff.mp hi).1
    rw [nb_length, List.length_map] at this
    exact this
  have hg : ns[i]? = some ns[i] := List.getElem?_eq_getElem hl
  rw [nb_get (d := .int ns[i]) (by rw [List.getElem?_map, hg]; rfl)] at hi
  cases hi
  refine ⟨_, jg_tup (jgs_cons jg_name (jgs_cons jg_name jgs_nil)), .inl ?_⟩
  have w : ∀ ps : Kn, ps = [some (dv K (sq sb (ns.map .int))), some (dv K (.int n)), some (dv K (.int (i : Nat))), some (dv K (.int ns[i]))] → Weak ps [some (dv K (sq sb (ns.map .int))), some (dv K (.int n)), none, none] := fun ps e => by
    subst e
    exact ⟨.inr rfl, .inr rfl, .inl rfl, .inl rfl, trivial⟩
  have hc := je_call (K := K) (M := T.M) (W := fun cls d _ H => E cls d H) (ps := [some (dv K (sq sb (ns.map .int))), some (dv K (.int n)), some (dv K (.int (i : Nat))), some (dv K (.int ns[i]))]) (args := args_check_number T) (dom := dom_check_number) (out := out_check_number T) (ns[i], n) (ja_cons (je_var (i := 3) rfl) (ja_cons (je_var (i := 1) rfl) ja_nil)) trivial
  unfold badNo
  rw [hg]
  dsimp only
  cases h1 : isNo ns[i] n with
  | false =>
    have e : out_check_number T (ns[i], n) = .er ⟨.NoPoint, .int ns[i]⟩ := by
      unfold out_check_number
      dsimp only
      rw [h1]
    rw [e] at hc
    exact js_er (js_drop hc)
  | true =>
    have e : out_check_number T (ns[i], n) = .ok (dv K .none) := by
      unfold out_check_number
      dsimp only
      rw [h1]
    rw [e] at hc
    dsimp only
    have hin := je_inQ (b := sb) (K := K) (M := T.M) (W := fun cls d _ H => E cls d H) (ps := [some (dv K (sq sb (ns.map .int))), some (dv K (.int n)), some (dv K (.int (i : Nat))), some (dv K (.int ns[i]))]) (ns := ns.take i) (je_var (i := 3) rfl) (je_is (je_slQ (b := sb) (ds := ns.map .int) (je_var (i := 0) rfl) jo_none (jo_some (je_var (i := 2) rfl))) (by rw [cutD_map]))
    cases h2 : (ns.take i).contains ns[i] with
    | true =>
      rw [h2] at hin
      exact js_seq (js_drop hc) (js_if (jt_test hin) (fun _ => js_raise (M := T.M) (c := .Repeated) (ja_cons (je_var rfl) ja_nil)) (fun z => Bool.noConfusion z))
    | false =>
      rw [h2] at hin
      exact js_seq (js_drop hc) (js_if (jt_test hin) (fun z => Bool.noConfusion z) (fun _ => js_weak js_next (w _ rfl)))
/-! ### check_point -/
def FAR : Int := 1000000
def badXY (p : Int × Int) : Option Er := match inR (-FAR) p.1 FAR with
  | false => some ⟨.TooFar, .int p.1⟩
  | true => match inR (-FAR) p.2 FAR with
    | false => some ⟨.TooFar, .int p.2⟩
    | true => none
def args_check_point {K : PySem.W.Frag} {mg : Str → Option Value} (T : Tx K mg) : Int × Int → List PV := fun a => [dv K (pD a)]
def dom_check_point : Int × Int → Prop := fun _ => True
def out_check_point {K : PySem.W.Frag} {mg : Str → Option Value} (T : Tx K mg) : Int × Int → Out := fun a => outE K (badXY a)
theorem je_FAR {K : PySem.W.Frag} {mg : Str → Option Value} (T : Tx K mg) {M : EC → Addr} {W : WX} {ps : Kn} : JD K M W (ClX.tCVal K (tC (.ref T.a_Floor)) "FAR") ps (.int FAR) := je_cval je_x T.cr_Floor T.cv_Floor_FAR fun _ => .int _
def tf (v : Int) : Option Er := match inR (-FAR) v FAR with
  | false => some ⟨.TooFar, .int v⟩
  | true => none
theorem badXY_eq (p : Int × Int) : badXY p = (List.range 2).findSome? (fun i => match i with | 0 => tf p.1 | _ => tf p.2) := by
  show badXY p = [0, 1].findSome? _
  unfold badXY
  simp only [List.findSome?_cons, List.findSome?_nil]
  unfold tf
  cases inR (-FAR) p.1 FAR <;> cases inR (-FAR) p.2 FAR <;> rfl
theorem ok_check_point {P : Program} {w : World} {K : PySem.W.Frag} {mg : Str → Option Value} {base : Heap} (T : Tx K mg) : FnOk P w K mg base (L2.CX P w) 4 T.a_check_point T.fd_check_point ["point"] (Prm K T.M (args_check_point T) dom_check_point (out_check_point T)) := by
  refine T.F_check_point.okX sc_check_point (fun vs H Q E h => by obtain ⟨a, F, _, al, _⟩ := h; exact al.length) (fun cdv A outer s H vs Q E hr h => ?_)
  have tk : Takes (cxOf (L2.CX P w) P w K mg base N_check_point "check_point" (defScope s_check_point) T.a_check_point cdv A outer s H E) (fun cls d _ H => E cls d H) := takes_of rfl rfl rfl rfl
  obtain ⟨a, F, fh, al, hd, th⟩ := h
  refine ⟨_, (pss_one (ps_for (passes_of rfl) rfl (pi_tup (pv 0)) (pg_name (i := 1) sc_check_point.nd rfl (by first | exact Or.inl rfl | exact Or.inr rfl)) (pss_one (ps_expr (pe_callS (ok_check_range T) (hr.mono (by decide)) (by rfl) T.g_check_range T.F_check_range.kp (b_check_range T) (fun σ => passAt tk σ) (pa_cons (pv 1) (pa_cons (pe_un un_neg (ClX.pe_cval (pe_glob (v := .ref T.a_Floor) (by rfl) T.g_Floor rfl))) (pa_cons (ClX.pe_cval (pe_glob (v := .ref T.a_Floor) (by rfl) T.g_Floor rfl)) pa_nil)))))))), ?_⟩
  refine fin_ok (r := ends (entry N_check_point (args_check_point T a)) ((badXY a).map Out.er)) ?_ (fin_chk _) fh al th
  rw [badXY_eq, ← first_er]
  refine js_search (vs := [1]) (ds := [.int a.1, .int a.2]) (fun i => ((match i with | 0 => tf a.1 | _ => tf a.2 : Option Er)).map Out.er) (ji_tup (je_var rfl)) fun i d hi => ?_
  have key : ∀ v : Int, JS K T.M (fun cls d _ H => E cls d H) (tDrop (tCallS (Prm K T.M (args_check_range T) dom_check_range (out_check_range T)) (WE fun cls d _ H => E cls d H) (tCons (tVar 1) (tCons (tUn (rU fun i => .int (-i)) (ClX.tCVal K (tC (.ref T.a_Floor)) "FAR")) (tCons (ClX.tCVal K (tC (.ref T.a_Floor)) "FAR") tNil))))) [some (dv K (pD a)), some (dv K (.int v))] (ends [some (dv K (pD a)), none] ((tf v).map Out.er)) := fun v => by
    have hc := je_call (K := K) (M := T.M) (W := fun cls d _ H => E cls d H) (ps := [some (dv K (pD a)), some (dv K (.int v))]) (args := args_check_range T) (dom := dom_check_range) (out := out_check_range T) (v, -FAR, FAR) (ja_cons (je_var (i := 1) rfl) (ja_cons (je_neg (je_FAR T)) (ja_cons (je_FAR T) ja_nil))) trivial
    cases h1 : inR (-FAR) v FAR with
    | false =>
      rw [show out_check_range T (v, -FAR, FAR) = .er ⟨.TooFar, .int v⟩ by unfold out_check_range; dsimp only; rw [h1]] at hc
      rw [show tf v = some ⟨.TooFar, .int v⟩ by unfold tf; rw [h1]]
      exact js_drop hc
    | true =>
      rw [show out_check_range T (v, -FAR, FAR) = .ok (dv K .none) by unfold out_check_range; dsimp only; rw [h1]] at hc
      rw [show tf v = none by unfold tf; rw [h1]]
      exact js_weak (js_drop hc) ⟨.inr rfl, .inl rfl, trivial⟩
  match i, hi with
  | 0, hi =>
    cases hi
    exact ⟨_, jg_name, .inl (key a.1)⟩
  | 1, hi =>
    cases hi
    exact ⟨_, jg_name, .inl (key a.2)⟩
end K12

namespace K12
open PySem PySem.Spec PyProof.Rows L2 Evl EB
/-! ### check_turns -/
def pt (pts : List (Int × Int)) (i : Int) : Int × Int := pts.getD i.toNat (0, 0)
def lineOf (pts : List (Int × Int)) (x : List Int) : Option Er := match x with
  | [a, b, c] => if area (pt pts a) (pt pts b) (pt pts c) = 0 then some ⟨.OnLine, tupI [a, b, c]⟩ else none
  | _ => none
def onLine (pts : List (Int × Int)) : Option Er := (subsL pts.length 3).findSome? (lineOf pts)
theorem subs3 : ∀ n : Nat, n < 11 → (subsL n 3).all (fun x => match x with
  | [a, b, c] => isNo a n && isNo b n && isNo c n
  | _ => false) = true := by decide +kernel
theorem first_ix {α β : Type} (f : α → Option β) (xs : List α) : (List.range xs.length).findSome? (fun i => xs[i]?.bind f) = xs.findSome? f := by
  induction xs with
  | nil => rfl
  | cons a r ih =>
    rw [List.length_cons, List.range_succ_eq_map, List.findSome?_cons, List.findSome?_map, List.findSome?_cons]
    have : ((fun i => (a :: r)[i]?.bind f) ∘ Nat.succ) = fun i => r[i]?.bind f := by
      funext i
      simp
    rw [this, ih]
    simp
theorem at_pt {pts : List (Int × Int)} {i : Int} (h : isNo i pts.length = true) : atI (pts.map pD) i = some (pD (pt pts i)) := by
  unfold isNo at h
  have h1 : 0 ≤ i := of_decide_eq_true (Bool.and_eq_true_iff.mp h).1
  have h2 : i < pts.length := of_decide_eq_true (Bool.and_eq_true_iff.mp h).2
  obtain ⟨j, rfl⟩ := Int.eq_ofNat_of_zero_le h1
  have h3 : j < pts.length := by omega
  refine atI_nat ?_
  rw [List.getElem?_map, List.getElem?_eq_getElem h3]
  unfold pt
  simp [h3]
theorem near_pt {pts : List (Int × Int)} (h : ∀ p ∈ pts, near p) (i : Int) : near (pt pts i) := by
  unfold pt
  by_cases hl : i.toNat < pts.length
  · rw [List.getD_eq_getElem?_getD, List.getElem?_eq_getElem hl]
    exact h _ (List.getElem_mem hl)
  · rw [List.getD_eq_getElem?_getD, List.getElem?_eq_none (by omega)]
    exact ⟨by decide, by decide⟩
theorem je_ixQ {K : PySem.W.Frag} {M : EC → Addr} {W : WX} {ps : Kn} {ta tb : TE} {b : Bool} {ds : List PyData} {i : Int} {d : PyData} (ha : JD K M W ta ps (sq b ds)) (hb : JD K M W tb ps (.int i)) (hi : atI ds i = some d) : JD K M W (tOp (rIx K) ta tb) ps d := by
  cases b with
  | true => exact je_ixQL ha hb hi
  | false => exact je_ixQT ha hb hi
def args_check_turns {K : PySem.W.Frag} {mg : Str → Option Value} (T : Tx K mg) : Bool × List (Int × Int) → List PV := fun a => [dv K (sq a.1 (a.2.map pD))]
def dom_check_turns : Bool × List (Int × Int) → Prop := fun a => a.2.length ≤ 10 ∧ ∀ p ∈ a.2, near p
def out_check_turns {K : PySem.W.Frag} {mg : Str → Option Value} (T : Tx K mg) : Bool × List (Int × Int) → Out := fun a => outE K (onLine a.2)
theorem ok_check_turns {P : Program} {w : World} {K : PySem.W.Frag} {mg : Str → Option Value} {base : Heap} (T : Tx K mg) : FnOk P w K mg base (L2.CX P w) 3 T.a_check_turns T.fd_check_turns ["points"] (Prm K T.M (args_check_turns T) dom_check_turns (out_check_turns T)) := by
  refine T.F_check_turns.okX sc_check_turns (fun vs H Q E h => by obtain ⟨a, F, _, al, _⟩ := h; exact al.length) (fun cdv A outer s H vs Q E hr h => ?_)
  have tk : Takes (cxOf (L2.CX P w) P w K mg base N_check_turns "check_turns" (defScope s_check_turns) T.a_check_turns cdv A outer s H E) (fun cls d _ H => E cls d H) := takes_of rfl rfl rfl rfl
  obtain ⟨a, F, fh, al, hd, th⟩ := h
  refine ⟨_, (pss_one (ps_for (passes_of rfl) rfl (pi_list (pe_callS (ok_subset_list T) (hr.mono (by decide)) (by rfl) T.g_subset_list T.F_subset_list.kp (b_subset_list T) (fun σ => passAt tk σ) (pa_cons (pe_callB call_len_seq (by rfl) T.z_len PySem.boot_len (pa_cons (pv 0) pa_nil)) (pa_cons pe_int pa_nil)))) (pg_tup rfl (pgs_cons (pg_name (i := 1) sc_check_turns.nd rfl (by first | exact Or.inl rfl | exact Or.inr rfl)) (pgs_cons (pg_name (i := 2) sc_check_turns.nd rfl (by first | exact Or.inl rfl | exact Or.inr rfl)) (pgs_cons (pg_name (i := 3) sc_check_turns.nd rfl (by first | exact Or.inl rfl | exact Or.inr rfl)) pgs_nil)))) (pss_one (ps_if (pt_cmpR op_eq (pe_callS (ok_bare_area T) (hr.mono (by decide)) (by rfl) T.g_bare_area T.F_bare_area.kp (b_bare_area T) (fun σ => passAt tk σ) (pa_cons (pe_ix ix_seq (pv 0) (pv 1) (fun _ _ => rfl)) (pa_cons (pe_ix ix_seq (pv 0) (pv 2) (fun _ _ => rfl)) (pa_cons (pe_ix ix_seq (pv 0) (pv 3) (fun _ _ => rfl)) pa_nil)))) pe_int (nomark _)) (pss_one (ps_raise rfl tk (pmk_oex (T.X_OnLine).ox (T.X_OnLine).iC (T.X_OnLine).tI (ok_OnLine T) (hr.mono (by decide)) (b_OnLine T) .nil pass0 (by rfl) T.g_OnLine (pa_cons (pe_tup (pa_cons (pv 1) (pa_cons (pv 2) (pa_cons (pv 3) pa_nil)))) pa_nil)))) pss_nil)))), ?_⟩
  obtain ⟨b, pts⟩ := a
  obtain ⟨hl, hnear⟩ := hd
  simp only at hl hnear
  refine fin_ok (r := ends (entry N_check_turns (args_check_turns T (b, pts))) ((onLine pts).map Out.er)) ?_ (fin_chk _) fh al th
  unfold onLine
  rw [← first_ix, ← first_er, show (subsL pts.length 3).length = ((subsL (pts.length : Nat) 3).map tupI).length by rw [List.length_map]]
  have hcall := je_call (K := K) (M := T.M) (W := fun cls d _ H => E cls d H) (ps := entry N_check_turns (args_check_turns T (b, pts))) (args := args_subset_list T) (dom := dom_subset_list) (out := out_subset_list T) (pts.length, 3) (ja_cons (je_is (je_lenQ (je_var (i := 0) rfl)) (by rw [List.length_map])) (ja_cons je_int ja_nil)) ⟨hl, (show (3:Nat) ≤ 4 by decide)⟩
  refine js_search (vs := [1, 2, 3]) (fun i => (((subsL pts.length 3)[i]?).bind (lineOf pts)).map Out.er) (ji_list hcall) fun i d hi => ?_
  have hlt : i < (subsL pts.length 3).length := by
    have := (List.getElem?_eq_some_iff.mp hi).1
    rw [List.length_map] at this
    exact this
  rw [List.getElem?_map, List.getElem?_eq_getElem hlt] at hi
  cases hi
  have hx := List.all_eq_true.mp (subs3 pts.length (by omega)) _ (List.getElem_mem hlt)
  rw [List.getElem?_eq_getElem hlt]
  generalize (subsL pts.length 3)[i] = x at hx
  match x, hx with
  | [u, v, z], hx =>
    simp only [Bool.and_eq_true] at hx
    obtain ⟨⟨h1, h2⟩, h3⟩ := hx
    refine ⟨_, jg_tup (ds := [.int u, .int v, .int z]) (jgs_cons jg_name (jgs_cons jg_name (jgs_cons jg_name jgs_nil))), .inl ?_⟩
    have hb := je_call (K := K) (M := T.M) (W := fun cls d _ H => E cls d H) (ps := [some (dv K (sq b (pts.map pD))), some (dv K (.int u)), some (dv K (.int v)), some (dv K (.int z))]) (args := args_bare_area T) (dom := dom_bare_area) (out := out_bare_area T) (pt pts u, pt pts v, pt pts z)
      (ja_cons (je_ixQ (je_var (i := 0) rfl) (je_var (i := 1) rfl) (at_pt h1)) (ja_cons (je_ixQ (je_var (i := 0) rfl) (je_var (i := 2) rfl) (at_pt h2)) (ja_cons (je_ixQ (je_var (i := 0) rfl) (je_var (i := 3) rfl) (at_pt h3)) ja_nil))) ⟨near_pt hnear _, near_pt hnear _, near_pt hnear _⟩
    show JS K T.M _ _ _ (ends _ ((lineOf pts [u, v, z]).map Out.er))
    by_cases h0 : area (pt pts u) (pt pts v) (pt pts z) = 0
    · rw [show lineOf pts [u, v, z] = some ⟨.OnLine, tupI [u, v, z]⟩ from if_pos h0]
      exact js_if (b := true) (jt_is (jt_test (je_eqI hb je_int)) (decide_eq_true h0)) (fun _ => js_raise (M := T.M) (c := .OnLine) (ja_cons (je_tup (ds := [.int u, .int v, .int z]) (ja_cons (je_var rfl) (ja_cons (je_var rfl) (ja_cons (je_var rfl) ja_nil)))) ja_nil)) (fun q => Bool.noConfusion q)
    · rw [show lineOf pts [u, v, z] = none from if_neg h0]
      exact js_if (b := false) (jt_is (jt_test (je_eqI hb je_int)) (decide_eq_false h0)) (fun q => Bool.noConfusion q) (fun _ => js_weak js_next ⟨.inr rfl, .inl rfl, .inl rfl, .inl rfl, trivial⟩)
/-! ### Floor(points) -/
def badPts (pts : List (Int × Int)) : Option Er := pts.findSome? badXY
def floorE (pts : List (Int × Int)) : Option Er := match inR 3 pts.length 10 with
  | false => some ⟨.WrongCount, .int pts.length⟩
  | true => match badPts pts with
    | some e => some e
    | none => onLine pts
def args_Floor___init__ {K : PySem.W.Frag} {mg : Str → Option Value} (T : Tx K mg) : Bool × List (Int × Int) → List PV := fun a => [dv K (sq a.1 (a.2.map pD))]
def dom_Floor___init__ : Bool × List (Int × Int) → Prop := fun a => a.1 = true
def out_Floor___init__ : Bool × List (Int × Int) → Except Er PyData := fun a => match floorE a.2 with
  | none => .ok (.tuple (a.2.map pD))
  | some e => .error e
theorem near_of {pts : List (Int × Int)} (h : badPts pts = none) : ∀ p ∈ pts, near p := fun p hp => by
  have := List.findSome?_eq_none_iff.mp h p hp
  unfold badXY at this
  cases h1 : inR (-FAR) p.1 FAR with
  | false => rw [h1] at this; cases this
  | true =>
    rw [h1] at this
    cases h2 : inR (-FAR) p.2 FAR with
    | false => rw [h2] at this; cases this
    | true =>
      unfold inR FAR at h1 h2
      simp only [Bool.and_eq_true, decide_eq_true_eq] at h1 h2
      exact ⟨by omega, by omega⟩
end K12

namespace K12
open PySem PySem.Spec PyProof.Rows L2 Evl EB
theorem js_pre3 {K : PySem.W.Frag} {M : EC → Addr} {W : WX} {A B C L : TS} {ps : Kn} {r : Res} {D : Ends} {σ : L2.St} {F H : Hp} (h : JS K M W (tSeq A (tSeq B C)) ps r) (fh : Ex F H) (S : Sl F σ ps) (k : Wsh K M W ps.length { D with nx := L D } F H r) : tSeq A (tSeq B (tSeq C L)) D σ H := h _ σ F H fh S k
theorem js_out {K : PySem.W.Frag} {M : EC → Addr} {W : WX} {ps : Kn} {te : TE} {o : Option Er} (h : JE K M W te ps (outE K o)) : JS K M W (tDrop te) ps (ends ps (o.map Out.er)) := by
  cases o with
  | none => exact js_drop h
  | some e => exact js_drop h
theorem js_seqE {K : PySem.W.Frag} {M : EC → Addr} {W : WX} {ps : Kn} {ts tu : TS} {o o2 : Option Er} (h : JS K M W ts ps (ends ps (o.map Out.er))) (h2 : o = none → JS K M W tu ps (ends ps (o2.map Out.er))) : JS K M W (tSeq ts tu) ps (ends ps ((o.or o2).map Out.er)) := by
  cases o with
  | none => exact js_seq h (h2 rfl)
  | some e => exact js_er h
theorem floorE_eq (pts : List (Int × Int)) : floorE pts = ((if inR 3 pts.length 10 then none else some ⟨.WrongCount, .int pts.length⟩ : Option Er).or ((badPts pts).or (onLine pts))) := by
  unfold floorE
  cases inR 3 pts.length 10 with
  | false => rfl
  | true => cases badPts pts <;> rfl
theorem ok_Floor___init__ {P : Program} {w : World} {K : PySem.W.Frag} {mg : Str → Option Value} {base : Heap} (T : Tx K mg) : FnOk P w K mg base (L2.CX P w) 5 T.a_Floor___init__ T.fd_Floor___init__ ["self", "points"] (spMake K T.M T.a_Floor "points" (args_Floor___init__ T) dom_Floor___init__ out_Floor___init__) := by
  refine T.F_Floor___init__.okX sc_Floor___init__ (fun vs H Q E h => by obtain ⟨a, F, x, dx, us, rfl, _, _, _, al, _⟩ := h; exact congrArg (· + 1) al.length) (fun cdv A outer s H vs Q E hr h => ?_)
  have tk : Takes (cxOf (L2.CX P w) P w K mg base N_Floor___init__ "Floor.__init__" (defScope s_Floor___init__) T.a_Floor___init__ cdv A outer s H E) (fun cls d _ H => E cls d H) := takes_of rfl rfl rfl rfl
  obtain ⟨a, F, x, dx, us, rfl, fh, hx, fx, al, hd, th⟩ := h
  refine ⟨_, (pss_cons (ps_expr (pe_callS (ok_check_count T) (hr.mono (by decide)) (by rfl) T.g_check_count T.F_check_count.kp (b_check_count T) (fun σ => passAt tk σ) (pa_cons (pv 1) (pa_cons (ClX.pe_cval (pe_glob (v := .ref T.a_Floor) (by rfl) T.g_Floor rfl)) (pa_cons (ClX.pe_cval (pe_glob (v := .ref T.a_Floor) (by rfl) T.g_Floor rfl)) pa_nil)))))
      (pss_cons (ps_for (passes_of rfl) rfl (pi_list (pv 1)) (pg_name (i := 2) sc_Floor___init__.nd rfl (by first | exact Or.inl rfl | exact Or.inr rfl)) (pss_one (ps_expr (pe_callS (ok_check_point T) (hr.mono (by decide)) (by rfl) T.g_check_point T.F_check_point.kp (b_check_point T) (fun σ => passAt tk σ) (pa_cons (pv 2) pa_nil)))))
      (pss_cons (ps_expr (pe_callS (ok_check_turns T) (hr.mono (by decide)) (by rfl) T.g_check_turns T.F_check_turns.kp (b_check_turns T) (fun σ => passAt tk σ) (pa_cons (pv 1) pa_nil)))
      (pss_one (ps_fld (pv 0) (pe_callTy call_tuple_of (by rfl) T.z_tuple PyProof.Rows.boot_tuple (pa_cons (pv 1) pa_nil)) rfl))))), ?_⟩
  obtain ⟨b, pts⟩ := a
  simp only [dom_Floor___init__] at hd
  subst hd
  have S0 : Sl F (L2.start N_Floor___init__ (.ref x :: us)) (entry N_Floor___init__ (xv (.ref x) :: args_Floor___init__ T (true, pts))) := Sl.start (.cons rfl al)
  have c1 := je_call (K := K) (M := T.M) (W := fun cls d _ H => E cls d H) (ps := entry N_Floor___init__ (xv (.ref x) :: args_Floor___init__ T (true, pts))) (args := args_check_count T) (dom := dom_check_count) (out := out_check_count T) (true, pts.map pD, 3, 10) (ja_cons (je_var (i := 1) rfl) (ja_cons (je_cval je_x T.cr_Floor T.cv_Floor_LEAST fun _ => .int _) (ja_cons (je_cval je_x T.cr_Floor T.cv_Floor_MOST fun _ => .int _) ja_nil))) trivial
  have e1 : out_check_count T (true, pts.map pD, 3, 10) = outE K (if inR 3 pts.length 10 then none else some ⟨.WrongCount, .int pts.length⟩) := by
    unfold out_check_count
    dsimp only
    rw [List.length_map]
    cases inR 3 pts.length 10 <;> rfl
  rw [e1] at c1
  refine js_pre3 (K := K) (r := ends (entry N_Floor___init__ (xv (.ref x) :: args_Floor___init__ T (true, pts))) ((floorE pts).map Out.er)) (M := T.M) (W := fun cls d _ H => E cls d H) ?_ fh S0 ?_
  · rw [floorE_eq]
    refine js_seqE (js_out c1) fun h1 => js_seqE ?_ fun h2 => ?_
    · unfold badPts
      rw [← first_ix, ← first_er, show pts.length = (pts.map pD).length by rw [List.length_map]]
      refine js_search (vs := [2]) (fun i => ((pts[i]?).bind badXY).map Out.er) (ji_list (je_var (i := 1) rfl)) fun i d hi => ?_
      have hlt : i < pts.length := by
        have := (List.getElem?_eq_some_iff.mp hi).1
        rw [List.length_map] at this
        exact this
      rw [List.getElem?_map, List.getElem?_eq_getElem hlt] at hi
      cases hi
      rw [List.getElem?_eq_getElem hlt]
      refine ⟨_, jg_name, .inl ?_⟩
      have hc := je_call (K := K) (M := T.M) (W := fun cls d _ H => E cls d H) (ps := [some (xv (.ref x)), some (dv K (.list (pts.map pD))), some (dv K (pD pts[i]))]) (args := args_check_point T) (dom := dom_check_point) (out := out_check_point T) pts[i] (ja_cons (je_var (i := 2) rfl) ja_nil) trivial
      have hj := js_out hc
      show JS K T.M _ _ _ (ends _ ((badXY pts[i]).map Out.er))
      cases hb : badXY pts[i] with
      | none =>
        rw [hb] at hj
        exact js_weak hj ⟨.inr rfl, .inr rfl, .inl rfl, trivial⟩
      | some e =>
        rw [hb] at hj
        exact hj
    · have hl : inR 3 pts.length 10 = true := by
        cases q : inR 3 pts.length 10 with
        | true => rfl
        | false => rw [q] at h1; cases h1
      unfold inR at hl
      simp only [Bool.and_eq_true, decide_eq_true_eq] at hl
      exact js_out (je_call (args := args_check_turns T) (dom := dom_check_turns) (out := out_check_turns T) (true, pts) (ja_cons (je_var (i := 1) rfl) ja_nil) ⟨(by have := hl.2; show pts.length ≤ 10; omega), near_of h2⟩)
  · unfold out_Floor___init__ at th
    dsimp only at th
    cases hf : floorE pts with
    | some e =>
      rw [hf] at th
      exact fun d u σ' F' H' g hn hd2 dp _ => th d u F' H' g hn hd2 dp
    | none =>
      rw [hf] at th
      intro σ' F' H' g S'
      dsimp only
      unfold L2.sFld
      refine JE.go (K := K) (M := T.M) (W := fun cls d _ H => E cls d H) (je_tupL (je_var (i := 1) rfl)) g.fh S' fun y F1 H1 g1 p => ?_
      obtain ⟨v, hv, hxv⟩ := (S'.mono g1.ff).2 0 _ rfl
      cases hxv
      have hx1 : H1 x = some (.ins T.a_Floor dx []) := g1.hh _ _ (g.hh _ _ hx)
      have f0 : F' x = none := g.nw x (by rw [hx]; exact fun z => nomatch z) fx
      have f1 : F1 x = none := g1.nw x (by rw [g.hh _ _ hx]; exact fun z => nomatch z) f0
      exact ⟨.ref x, hv, x, T.a_Floor, dx, [], rfl, hx1, T.C_Floor, T.n_Floor_points, by decide, th F1 H1 y (g.trans g1) p f1⟩
end K12

namespace K12
open PySem PySem.Spec PyProof.Rows L2 Evl EB
def outV (K : PySem.W.Frag) (o : Option Er) (d : PyData) : Out := match o with
  | none => .ok (dv K d)
  | some e => .er e
theorem two_eq (a b : Option Er) : a.or b = (List.range 2).findSome? (fun i => match i with | 0 => a | _ => b) := by
  show _ = [0, 1].findSome? _
  simp only [List.findSome?_cons, List.findSome?_nil]
  cases a <;> cases b <;> rfl
theorem three_eq (a b c : Option Er) : a.or (b.or c) = (List.range 3).findSome? (fun i => match i with | 0 => a | 1 => b | _ => c) := by
  show _ = [0, 1, 2].findSome? _
  simp only [List.findSome?_cons, List.findSome?_nil]
  cases a <;> cases b <;> cases c <;> rfl
theorem js_ends {K : PySem.W.Frag} {M : EC → Addr} {W : WX} {ts : TS} {ps rs qs : Kn} {o : Option Er} (h : JS K M W ts ps (ends rs (o.map Out.er))) (w : Weak rs qs) : JS K M W ts ps (ends qs (o.map Out.er)) := by
  cases o with
  | none => exact js_weak h w
  | some e => exact h
/-- a def that checks, then answers -/
theorem fin_then {K : PySem.W.Frag} {M : EC → Addr} {W : WX} {ts tu : TS} {ps : Kn} {o : Option Er} {d : PyData} (h : JS K M W ts ps (ends ps (o.map Out.er))) (h2 : o = none → JS K M W tu ps (.rt (dv K d))) : ∃ r, JS K M W (tSeq ts tu) ps r ∧ Fin K r (outV K o d) := by
  cases o with
  | none => exact ⟨_, js_seq h (h2 rfl), rfl⟩
  | some e => exact ⟨_, js_er h, rfl⟩
/-! ### area, turn -/
def args_Floor_area {K : PySem.W.Frag} {mg : Str → Option Value} (T : Tx K mg) : List (Int × Int) × Int × Int × Int → List PV := fun a => [ob1 K T.a_Floor "points" (.tuple (a.1.map pD)), dv K (.int a.2.1), dv K (.int a.2.2.1), dv K (.int a.2.2.2)]
def dom_Floor_area : List (Int × Int) × Int × Int × Int → Prop := fun a => a.1.length ≤ 10 ∧ ∀ p ∈ a.1, near p
def ar (pts : List (Int × Int)) (a b c : Int) : Int := area (pt pts a) (pt pts b) (pt pts c)
def out_Floor_area {K : PySem.W.Frag} {mg : Str → Option Value} (T : Tx K mg) : List (Int × Int) × Int × Int × Int → Out := fun a => outV K (badNos a.1.length [a.2.1, a.2.2.1, a.2.2.2]) (.int (ar a.1 a.2.1 a.2.2.1 a.2.2.2))
theorem no3 {n : Int} {a b c : Int} (h : badNos n [a, b, c] = none) : isNo a n = true ∧ isNo b n = true ∧ isNo c n = true := by
  have key : ∀ k i, k < 3 → [a, b, c][k]? = some i → isNo i n = true := fun k i hk hi => by
    have := List.findSome?_eq_none_iff.mp h k (List.mem_range.mpr hk)
    unfold badNo at this
    rw [hi] at this
    dsimp only at this
    cases h1 : isNo i n with
    | true => rfl
    | false => rw [h1] at this; cases this
  exact ⟨key 0 a (by decide) rfl, key 1 b (by decide) rfl, key 2 c (by decide) rfl⟩
theorem je_call_er {K : PySem.W.Frag} {M : EC → Addr} {W : WX} {ps : Kn} {te : TE} {tr : TA} {e : Er} {sp : Sp} (h : JE K M W te ps (.er e)) : JE K M W (tCallS sp (WE W) (tCons te tr)) ps (.er e) := fun σ F H Q fh S k => h σ F H _ fh S k
def args_Floor_turn {K : PySem.W.Frag} {mg : Str → Option Value} (T : Tx K mg) : List (Int × Int) × Int × Int × Int → List PV := args_Floor_area T
def dom_Floor_turn : List (Int × Int) × Int × Int × Int → Prop := dom_Floor_area
def out_Floor_turn {K : PySem.W.Frag} {mg : Str → Option Value} (T : Tx K mg) : List (Int × Int) × Int × Int × Int → Out := fun a => outV K (badNos a.1.length [a.2.1, a.2.2.1, a.2.2.2]) (.int (sgn (ar a.1 a.2.1 a.2.2.1 a.2.2.2)))
end K12

namespace K12
open PySem PySem.Spec PyProof.Rows L2 Evl EB
/-! ### cell, area, whole -/
def cell (ns : List Int) (i : Nat) : Int := match ns[i]? with
  | some v => if v < 0 then -v else v
  | none => 0
def intsD (ns : List Int) : List PyData := ns.map .int
def args__law_cell {K : PySem.W.Frag} {mg : Str → Option Value} (T : Tx K mg) : List Int × Nat → List PV := fun a => [dv K (.list (intsD a.1)), dv K (.int a.2)]
def dom__law_cell : List Int × Nat → Prop := fun _ => True
def out__law_cell {K : PySem.W.Frag} {mg : Str → Option Value} (T : Tx K mg) : List Int × Nat → Out := fun a => .ok (dv K (.int (cell a.1 a.2)))
theorem ok__law_cell {P : Program} {w : World} {K : PySem.W.Frag} {mg : Str → Option Value} {base : Heap} (T : Tx K mg) : FnOk P w K mg base (L2.CX P w) 1 T.a__law_cell T.fd__law_cell ["cells", "place"] (Prm K T.M (args__law_cell T) dom__law_cell (out__law_cell T)) := by
  refine T.F__law_cell.okX sc__law_cell (fun vs H Q E h => by obtain ⟨a, F, _, al, _⟩ := h; exact al.length) (fun cdv A outer s H vs Q E hr h => ?_)
  have tk : Takes (cxOf (L2.CX P w) P w K mg base N__law_cell "_law_cell" (defScope s__law_cell) T.a__law_cell cdv A outer s H E) (fun cls d _ H => E cls d H) := takes_of rfl rfl rfl rfl
  obtain ⟨a, F, fh, al, hd, th⟩ := h
  refine ⟨_, (pss_cons (ps_if (pt_cmpR op_lt (pv 1) (pe_callB call_len_seq (by rfl) T.z_len PySem.boot_len (pa_cons (pv 0) pa_nil)) (nomark _)) (pss_one (ps_ret (pe_callB call_abs (by rfl) T.z_abs (by decide +kernel) (pa_cons (pe_ix ix_list (pv 0) (pv 1) (fun _ _ => rfl)) pa_nil)))) pss_nil)
      (pss_one (ps_ret pe_int))), ?_⟩
  obtain ⟨ns, i⟩ := a
  by_cases h : i < ns.length
  · refine fin_ok (r := .rt (dv K (.int (cell ns i)))) (js_rt (js_if (b := true) (jt_is (jt_test (je_lt (je_var (i := 1) rfl) (je_lenL (je_var (i := 0) rfl)))) ?_) (fun _ => js_ret ?_) (fun z => Bool.noConfusion z))) (by exact rfl) fh al th
    · unfold intsD
      rw [List.length_map]
      exact decide_eq_true (by dsimp only; omega)
    · have e : cell ns i = if ns[i] < 0 then -ns[i] else ns[i] := by
        unfold cell
        rw [List.getElem?_eq_getElem h]
      rw [e]
      refine je_abs (je_ixL (je_var (i := 0) rfl) (je_var (i := 1) rfl) (atI_nat ?_))
      unfold intsD
      rw [List.getElem?_map, List.getElem?_eq_getElem h]
      rfl
  · refine fin_ok (r := .rt (dv K (.int (cell ns i)))) (js_seq (js_if (b := false) (jt_is (jt_test (je_lt (je_var (i := 1) rfl) (je_lenL (je_var (i := 0) rfl)))) ?_) (fun z => Bool.noConfusion z) (fun _ => js_next)) (js_ret ?_)) (by exact rfl) fh al th
    · unfold intsD
      rw [List.length_map]
      exact decide_eq_false (by dsimp only; omega)
    · rw [show cell ns i = 0 by unfold cell; rw [List.getElem?_eq_none (by omega)]]
      exact je_int
theorem area_eq (p q r : Int × Int) : p.1 * q.2 - q.1 * p.2 + (q.1 * r.2 - r.1 * q.2) + (r.1 * p.2 - p.1 * r.2) = area p q r := by
  unfold area
  grind
def args__law_area {K : PySem.W.Frag} {mg : Str → Option Value} (T : Tx K mg) : (Int × Int) × (Int × Int) × (Int × Int) → List PV := args_bare_area T
def dom__law_area : (Int × Int) × (Int × Int) × (Int × Int) → Prop := dom_bare_area
def out__law_area {K : PySem.W.Frag} {mg : Str → Option Value} (T : Tx K mg) : (Int × Int) × (Int × Int) × (Int × Int) → Out := out_bare_area T
theorem ok__law_area {P : Program} {w : World} {K : PySem.W.Frag} {mg : Str → Option Value} {base : Heap} (T : Tx K mg) : FnOk P w K mg base (L2.CX P w) 1 T.a__law_area T.fd__law_area ["p", "q", "r"] (Prm K T.M (args__law_area T) dom__law_area (out__law_area T)) := by
  refine T.F__law_area.okX sc__law_area (fun vs H Q E h => by obtain ⟨a, F, _, al, _⟩ := h; exact al.length) (fun cdv A outer s H vs Q E hr h => ?_)
  have tk : Takes (cxOf (L2.CX P w) P w K mg base N__law_area "_law_area" (defScope s__law_area) T.a__law_area cdv A outer s H E) (fun cls d _ H => E cls d H) := takes_of rfl rfl rfl rfl
  obtain ⟨a, F, fh, al, hd, th⟩ := h
  refine ⟨_, (pss_cons (ps_set (i := 3) sc__law_area.nd rfl (by first | exact Or.inl rfl | exact Or.inr rfl) (pe_op op_sub (pe_op op_mul (pe_ix ix_tup (pv 0) pe_int (fun _ _ => rfl)) (pe_ix ix_tup (pv 1) pe_int (fun _ _ => rfl))) (pe_op op_mul (pe_ix ix_tup (pv 1) pe_int (fun _ _ => rfl)) (pe_ix ix_tup (pv 0) pe_int (fun _ _ => rfl)))))
      (pss_cons (ps_set (i := 4) sc__law_area.nd rfl (by first | exact Or.inl rfl | exact Or.inr rfl) (pe_op op_sub (pe_op op_mul (pe_ix ix_tup (pv 1) pe_int (fun _ _ => rfl)) (pe_ix ix_tup (pv 2) pe_int (fun _ _ => rfl))) (pe_op op_mul (pe_ix ix_tup (pv 2) pe_int (fun _ _ => rfl)) (pe_ix ix_tup (pv 1) pe_int (fun _ _ => rfl)))))
      (pss_cons (ps_set (i := 5) sc__law_area.nd rfl (by first | exact Or.inl rfl | exact Or.inr rfl) (pe_op op_sub (pe_op op_mul (pe_ix ix_tup (pv 2) pe_int (fun _ _ => rfl)) (pe_ix ix_tup (pv 0) pe_int (fun _ _ => rfl))) (pe_op op_mul (pe_ix ix_tup (pv 0) pe_int (fun _ _ => rfl)) (pe_ix ix_tup (pv 2) pe_int (fun _ _ => rfl)))))
      (pss_one (ps_ret (pe_op op_add (pe_op op_add (pv 3) (pv 4)) (pv 5))))))), ?_⟩
  obtain ⟨p, q, r⟩ := a
  obtain ⟨⟨hp1, hp2⟩, ⟨hq1, hq2⟩, hr1, hr2⟩ := hd
  simp only at hp1 hp2 hq1 hq2 hr1 hr2
  have e : out__law_area T (p, q, r) = .ok (dv K (.int (p.1 * q.2 - q.1 * p.2 + (q.1 * r.2 - r.1 * q.2) + (r.1 * p.2 - p.1 * r.2)))) := by
    rw [area_eq] <;> rfl
  rw [e] at th
  refine fin_ok (r := .rt (dv K (.int (p.1 * q.2 - q.1 * p.2 + (q.1 * r.2 - r.1 * q.2) + (r.1 * p.2 - p.1 * r.2))))) (js_seq (js_set (je_sub (je_mul (je_x0 (je_var (i := 0) rfl)) (je_y1 (je_var (i := 1) rfl)) (near_mul (by dsimp only; omega))) (je_mul (je_x0 (je_var (i := 1) rfl)) (je_y1 (je_var (i := 0) rfl)) (near_mul (by dsimp only; omega)))))
    (js_seq (js_set (je_sub (je_mul (je_x0 (je_var (i := 1) rfl)) (je_y1 (je_var (i := 2) rfl)) (near_mul (by dsimp only; omega))) (je_mul (je_x0 (je_var (i := 2) rfl)) (je_y1 (je_var (i := 1) rfl)) (near_mul (by dsimp only; omega)))))
    (js_seq (js_set (je_sub (je_mul (je_x0 (je_var (i := 2) rfl)) (je_y1 (je_var (i := 0) rfl)) (near_mul (by dsimp only; omega))) (je_mul (je_x0 (je_var (i := 0) rfl)) (je_y1 (je_var (i := 2) rfl)) (near_mul (by dsimp only; omega)))))
    (js_ret (je_add (je_add (je_var (i := 3) rfl) (je_var (i := 4) rfl)) (je_var (i := 5) rfl)))))) (by exact rfl) fh al th
theorem first_map {α β γ : Type} (f : β → γ) (c : α → Option β) : ∀ l : List α, l.findSome? (fun i => (c i).map f) = (l.findSome? c).map f
  | [] => rfl
  | x :: l => by
    rw [List.findSome?_cons, List.findSome?_cons, first_map f c l]
    cases c x <;> rfl
def nmE : EC → Str
  | .WrongCount => "WrongCount"
  | .TooFar => "TooFar"
  | .NoPoint => "NoPoint"
  | .Repeated => "Repeated"
  | .OnLine => "OnLine"
  | .NoSize => "NoSize"
  | .WrongRow => "WrongRow"
  | .WrongLine => "WrongLine"
  | .OnPlane => "OnPlane"
  | .Within => "Within"
  | _ => ""
def raisedD (e : Er) : PyData := .tuple [.str "raised", .str (nmE e.c), e.val, .bool true]
def orE (o : Option Er) (d : PyData) : PyData := match o with
  | some e => raisedD e
  | none => d
theorem isNo_not (i n : Int) : (decide (i < 0) || decide (n ≤ i)) = !isNo i n := by
  unfold isNo
  by_cases h1 : i < 0
  · have h2 : ¬ 0 ≤ i := by omega
    simp [h1, h2]
  · have h2 : 0 ≤ i := by omega
    by_cases h3 : n ≤ i
    · have h4 : ¬ i < n := by omega
      simp [h1, h2, h3, h4]
    · have h4 : i < n := by omega
      simp [h1, h2, h3, h4]
theorem sgn_eq (v : Int) : (if decide (0 < v) = true then (1 : Int) else 0) - (if decide (v < 0) = true then 1 else 0) = sgn v := by
  unfold sgn
  by_cases h1 : v > 0
  · have h2 : ¬ v < 0 := by omega
    have h3 : 0 < v := h1
    simp [h2, h3]
  · have h3 : ¬ 0 < v := h1
    by_cases h2 : v < 0
    · simp [h2, h3]
    · simp [h2, h3]
/-- a clause's suite: it tells the error, and of which classes it is -/
abbrev suT (K : PySem.W.Frag) (B C C2 C3 : Addr) (nm f : Str) (i j : Nat) : Addr → Value → Option Addr → TS := fun a cls d =>
  tSeq (tAsg (tAndV (tCB (rIsEx K a cls d) (tCons (tVar i) (tCons (tC (.ref B)) tNil))) (tCB (rIsEx K a cls d) (tCons (tVar i) (tCons (tC (.ty "ValueError")) tNil)))) (gName j))
    (tRet (tTup (tCons (tC (.str "raised")) (tCons (tC (.str nm)) (tCons (tXf a cls d C f (tVar i)) (tCons (tAndV (tVar j) (tNotV (tCB (rIsExT K a cls d) (tCons (tVar i) (tCons (tTup (tCons (tC (.ref C2)) (tCons (tC (.ref C3)) tNil))) tNil))))) tNil))))))
theorem suite_std {K : PySem.W.Frag} {M : EC → Addr} {W : WX} {n i j : Nat} {c : EC} {d : PyData} {B C2 C3 : Addr} (hi : i < n) (hj : j < n) (hij : i ≠ j) (X : ExK K (M c)) (h1 : PySem.W.kitOne K (.ref (M c)) (.ref B) = some true) (h2 : PySem.W.kitOne K (.ref (M c)) (.type "ValueError") = some true) (h3 : PySem.W.kitAny K (.ref (M c)) [.ref C2, .ref C3] = some false) :
    Suite K M W n i (suT K B (M c) C2 C3 (nmE c) c.fld i j) ⟨c, d⟩ (dv K (raisedD ⟨c, d⟩)) := fun a dd => by
  have v1 : ((List.replicate n (none : Option PV)).set i (some (exv K a dd c.fld d)))[i]? = some (some (exv K a dd c.fld d)) := List.getElem?_set_self (by rw [List.length_replicate]; exact hi)
  have v2 : (((List.replicate n (none : Option PV)).set i (some (exv K a dd c.fld d))).set j (some (dv K (.bool true))))[i]? = some (some (exv K a dd c.fld d)) := by rw [List.getElem?_set_ne (fun z => hij z.symm)]; exact v1
  have v3 : (((List.replicate n (none : Option PV)).set i (some (exv K a dd c.fld d))).set j (some (dv K (.bool true))))[j]? = some (some (dv K (.bool true))) := List.getElem?_set_self (by rw [List.length_set, List.length_replicate]; exact hj)
  refine js_seq (js_set (P := dv K (.bool true)) (je_andV (a := true) (b := true) (je_isEx (je_var v1) X (.own B) h1) (fun _ => je_isEx (je_var v1) X (.ty "ValueError") h2)))
    (js_ret (je_tup (ds := [.str "raised", .str (nmE c), d, .bool true]) (ja_cons je_str (ja_cons je_str (ja_cons (je_xf (je_var v2)) (ja_cons (je_andV (a := true) (b := true) (je_var v3) (fun _ => je_notV (a := false) (je_isExT2 (je_var v2) X h3))) ja_nil))))))
def asgR (ps : Kn) (i : Nat) : Out → Res
  | .ok P => .nx (ps.set i (some P))
  | .er e => .er e
theorem js_setO {K : PySem.W.Frag} {M : EC → Addr} {W : WX} {ps : Kn} {te : TE} {i : Nat} {o : Out} (h : JE K M W te ps o) : JS K M W (tAsg te (gName i)) ps (asgR ps i o) := by
  cases o with
  | ok P => exact js_set h
  | er e => exact js_set_er h
theorem ok4 {n : Nat} {a b c d : PyData} (ha : Ok a n) (hb : Ok b n) (hc : Ok c n) (hd : Ok d n) : Ok (.tuple [a, b, c, d]) (n + 1) := ok_tup fun x hx => by
  simp only [List.mem_cons, List.not_mem_nil, or_false] at hx
  rcases hx with rfl | rfl | rfl | rfl
  · exact ha
  · exact hb
  · exact hc
  · exact hd
theorem ok_raised {e : Er} {n : Nat} (h : Ok e.val n) : Ok (raisedD e) (n + 1) := ok4 (ok_str (by decide +kernel)) (ok_str (by cases e.c <;> decide +kernel)) h ok_bl
theorem first_none {α : Type} {n : Nat} : (List.range n).findSome? (fun _ => (none : Option α)) = none := List.findSome?_eq_none_iff.mpr fun _ _ => rfl
/-- a loop that is never left -/
theorem js_all {K : PySem.W.Frag} {M : EC → Addr} {W : WX} {ps : Kn} {vs : List Nat} {wi : TI} {g : TG} {ds : List PyData} {tb : TS} (hi : JI K M W wi ps ds)
    (hs : ∀ (i : Nat) (d : PyData), ds[i]? = some d → ∃ qs, JG vs g ps (dv K d) qs ∧ JS K M W tb qs (.nx ps)) : JS K M W (tFor wi g tb) ps (.nx ps) := by
  have := js_search (M := M) (W := W) (g := g) (tb := tb) (vs := vs) (fun _ => none) hi fun (i : Nat) (d : PyData) (h : ds[i]? = some d) => by
    obtain ⟨qs, hg, hb⟩ := hs i d h
    exact ⟨qs, hg, .inl hb⟩
  rw [first_none] at this
  exact this
end K12

namespace K12
open PySem PySem.Spec PyProof.Rows L2 Evl EB
theorem rg_int {n i : Nat} {d : PyData} (h : ((rg 0 n).map PyData.int)[i]? = some d) : i < n ∧ d = .int (i : Nat) := by
  have hl := (List.getElem?_eq_some_iff.mp h).1
  rw [List.length_map, rg_length] at hl
  rw [List.getElem?_map, rg_get hl] at h
  cases h
  exact ⟨hl, by simp⟩
theorem nat_pt {pts : List (Int × Int)} {i : Nat} (h : i < pts.length) : atI (pts.map pD) (i : Int) = some (pD (pt pts i)) := at_pt (by
  unfold isNo
  simp
  omega)
/-! ### made, refusal -/
def flD (pts : List (Int × Int)) : PyData := .tuple [.str "floor", .str "", .tuple (pts.map pD), .bool true]
def refD (pts : List (Int × Int)) : PyData := orE (floorE pts) (flD pts)
theorem badXY_c {p : Int × Int} {e : Er} (h : badXY p = some e) : ∃ v, e = ⟨.TooFar, .int v⟩ := by
  unfold badXY at h
  cases h1 : inR (-FAR) p.1 FAR with
  | false => rw [h1] at h; cases h; exact ⟨_, rfl⟩
  | true =>
    rw [h1] at h
    cases h2 : inR (-FAR) p.2 FAR with
    | false => rw [h2] at h; cases h; exact ⟨_, rfl⟩
    | true => rw [h2] at h; cases h
theorem onLine_c {pts : List (Int × Int)} {e : Er} (h : onLine pts = some e) : ∃ xs, e = ⟨.OnLine, tupI xs⟩ := by
  obtain ⟨x, _, hx⟩ := List.exists_of_findSome?_eq_some h
  unfold lineOf at hx
  match x, hx with
  | [a, b, c], hx =>
    dsimp only at hx
    by_cases h0 : area (pt pts a) (pt pts b) (pt pts c) = 0
    · rw [if_pos h0] at hx
      cases hx
      exact ⟨_, rfl⟩
    · rw [if_neg h0] at hx
      cases hx
theorem floorE_c {pts : List (Int × Int)} {e : Er} (h : floorE pts = some e) : (∃ v, e = ⟨.WrongCount, .int v⟩) ∨ (∃ v, e = ⟨.TooFar, .int v⟩) ∨ ∃ xs, e = ⟨.OnLine, tupI xs⟩ := by
  unfold floorE at h
  cases h1 : inR 3 pts.length 10 with
  | false => rw [h1] at h; cases h; exact .inl ⟨_, rfl⟩
  | true =>
    rw [h1] at h
    cases h2 : badPts pts with
    | some e2 =>
      rw [h2] at h
      cases h
      obtain ⟨p, _, hp⟩ := List.exists_of_findSome?_eq_some h2
      exact .inr (.inl (badXY_c hp))
    | none =>
      rw [h2] at h
      exact .inr (.inr (onLine_c h))
theorem ok_pD {n : Nat} (p : Int × Int) : Ok (pD p) (n + 1) := ok_tup (ds := [p.1, p.2].map .int) (ok_ints _)
theorem ok_pts {n : Nat} (pts : List (Int × Int)) : ∀ d ∈ pts.map pD, Ok d (n + 1) := fun d hd => by
  obtain ⟨p, _, rfl⟩ := List.mem_map.mp hd
  exact ok_pD p
theorem ok_ref (pts : List (Int × Int)) : Ok (refD pts) 3 := by
  unfold refD
  cases h : floorE pts with
  | none => exact ok4 (ok_str (by decide +kernel)) (ok_str (by decide +kernel)) (ok_tup (n := 1) (ok_pts (n := 0) pts)) ok_bl
  | some e =>
    rcases floorE_c h with ⟨v, rfl⟩ | ⟨v, rfl⟩ | ⟨xs, rfl⟩
    · exact ok_raised (n := 2) ok_int
    · exact ok_raised (n := 2) ok_int
    · exact ok_raised (n := 2) (ok_tup (n := 1) (ok_ints xs))
def args__law_made {K : PySem.W.Frag} {mg : Str → Option Value} (T : Tx K mg) : List (Int × Int) → List PV := fun a => [dv K (.list (a.map pD))]
def dom__law_made : List (Int × Int) → Prop := fun _ => True
def out__law_made {K : PySem.W.Frag} {mg : Str → Option Value} (T : Tx K mg) : List (Int × Int) → Out := fun a => .ok (dv K (refD a))
def outO (K : PySem.W.Frag) (C : Addr) (o : Option Er) (d : PyData) : Out := match o with
  | none => .ok (ob1 K C "points" d)
  | some e => .er e
abbrev tbMade {K : PySem.W.Frag} {mg : Str → Option Value} (T : Tx K mg) : WX → TS := fun W => tAsg (tMakeS T.a_Floor (spMake K T.M T.a_Floor "points" (args_Floor___init__ T) dom_Floor___init__ out_Floor___init__) (WE W) (tCons (tVar 0) tNil)) (gName 1)
theorem mk_floor {K : PySem.W.Frag} {mg : Str → Option Value} (T : Tx K mg) {W : WX} {ps : Kn} {tr : TA} {pts : List (Int × Int)} (h : JA K T.M W tr ps [dv K (.list (pts.map pD))]) : JE K T.M W (tMakeS T.a_Floor (spMake K T.M T.a_Floor "points" (args_Floor___init__ T) dom_Floor___init__ out_Floor___init__) (WE W) tr) ps (outO K T.a_Floor (floorE pts) (.tuple (pts.map pD))) := by
  have := je_make (args := args_Floor___init__ T) (dom := dom_Floor___init__) (out := out_Floor___init__) (C := T.a_Floor) (f := "points") (true, pts) h rfl
  have e : mkOut K T.a_Floor "points" (out_Floor___init__ (true, pts)) = outO K T.a_Floor (floorE pts) (.tuple (pts.map pD)) := by
    unfold out_Floor___init__
    cases floorE pts <;> rfl
  rw [← e]
  exact this
theorem ok__law_made {P : Program} {w : World} {K : PySem.W.Frag} {mg : Str → Option Value} {base : Heap} (T : Tx K mg) : FnOk P w K mg base (L2.CX P w) 7 T.a__law_made T.fd__law_made ["points"] (Prm K T.M (args__law_made T) dom__law_made (out__law_made T)) := by
  refine T.F__law_made.okX sc__law_made (fun vs H Q E h => by obtain ⟨a, F, _, al, _⟩ := h; exact al.length) (fun cdv A outer s H vs Q E hr h => ?_)
  have tk : Takes (cxOf (L2.CX P w) P w K mg base N__law_made "_law_made" (defScope s__law_made) T.a__law_made cdv A outer s H E) (fun cls d _ H => E cls d H) := takes_of rfl rfl rfl rfl
  obtain ⟨a, F, fh, al, hd, th⟩ := h
  refine ⟨_, (pss_cons (ps_try_named (tb := fun W => _) rfl rfl sc__law_made.nd tk (fun W pn xe tkb pob => (pss_one (ps_set (i := 1) sc__law_made.nd rfl (by first | exact Or.inl rfl | exact Or.inr rfl) (pe_makeS T.M_Floor (ok_Floor___init__ T) (hr.mono (by decide)) (by rfl) T.g_Floor (b_Floor___init__ T) (fun σ => passAt tkb σ) (pa_cons (pv 0) pa_nil))))) (Clauses.cons (c := .ref T.a_WrongCount) (i := 2) ⟨rfl, by decide, .inl T.g_WrongCount⟩ rfl rfl (fun a ob cls d pn hz hf => (pss_cons (ps_set (i := 3) sc__law_made.nd rfl (by first | exact Or.inl rfl | exact Or.inr rfl) (pe_and (pe_callB (call_isEx hz hf) (by rfl) T.z_isinstance PyProof.Rows.boot_isinstance (pa_cons (pv 2) (pa_cons (pe_glob (v := .ref T.a_BowlError) (by rfl) T.g_BowlError rfl) pa_nil))) (pe_one (pe_callB (call_isEx hz hf) (by rfl) T.z_isinstance PyProof.Rows.boot_isinstance (pa_cons (pv 2) (pa_cons (pe_bltn (v := .ty "ValueError") (by rfl) T.z_ValueError PyProof.Rows.Boot.«ValueError» rfl) pa_nil))))))
      (pss_one (ps_ret (pe_tup (pa_cons pe_str (pa_cons pe_str (pa_cons (pe_xf (T.X_WrongCount).xf (T.X_WrongCount).nf hz hf (pv 2)) (pa_cons (pe_and (pv 3) (pe_one (pe_not (pe_callB (call_isExT hz hf) (by rfl) T.z_isinstance PyProof.Rows.boot_isinstance (pa_cons (pv 2) (pa_cons (pe_tup (pa_cons (pe_glob (v := .ref T.a_OnLine) (by rfl) T.g_OnLine rfl) (pa_cons (pe_glob (v := .ref T.a_TooFar) (by rfl) T.g_TooFar rfl) pa_nil))) pa_nil)))))) pa_nil))))))))) (Clauses.cons (c := .ref T.a_TooFar) (i := 2) ⟨rfl, by decide, .inl T.g_TooFar⟩ rfl rfl (fun a ob cls d pn hz hf => (pss_cons (ps_set (i := 3) sc__law_made.nd rfl (by first | exact Or.inl rfl | exact Or.inr rfl) (pe_and (pe_callB (call_isEx hz hf) (by rfl) T.z_isinstance PyProof.Rows.boot_isinstance (pa_cons (pv 2) (pa_cons (pe_glob (v := .ref T.a_BowlError) (by rfl) T.g_BowlError rfl) pa_nil))) (pe_one (pe_callB (call_isEx hz hf) (by rfl) T.z_isinstance PyProof.Rows.boot_isinstance (pa_cons (pv 2) (pa_cons (pe_bltn (v := .ty "ValueError") (by rfl) T.z_ValueError PyProof.Rows.Boot.«ValueError» rfl) pa_nil))))))
      (pss_one (ps_ret (pe_tup (pa_cons pe_str (pa_cons pe_str (pa_cons (pe_xf (T.X_TooFar).xf (T.X_TooFar).nf hz hf (pv 2)) (pa_cons (pe_and (pv 3) (pe_one (pe_not (pe_callB (call_isExT hz hf) (by rfl) T.z_isinstance PyProof.Rows.boot_isinstance (pa_cons (pv 2) (pa_cons (pe_tup (pa_cons (pe_glob (v := .ref T.a_OnLine) (by rfl) T.g_OnLine rfl) (pa_cons (pe_glob (v := .ref T.a_WrongCount) (by rfl) T.g_WrongCount rfl) pa_nil))) pa_nil)))))) pa_nil))))))))) (Clauses.cons (c := .ref T.a_OnLine) (i := 2) ⟨rfl, by decide, .inl T.g_OnLine⟩ rfl rfl (fun a ob cls d pn hz hf => (pss_cons (ps_set (i := 3) sc__law_made.nd rfl (by first | exact Or.inl rfl | exact Or.inr rfl) (pe_and (pe_callB (call_isEx hz hf) (by rfl) T.z_isinstance PyProof.Rows.boot_isinstance (pa_cons (pv 2) (pa_cons (pe_glob (v := .ref T.a_BowlError) (by rfl) T.g_BowlError rfl) pa_nil))) (pe_one (pe_callB (call_isEx hz hf) (by rfl) T.z_isinstance PyProof.Rows.boot_isinstance (pa_cons (pv 2) (pa_cons (pe_bltn (v := .ty "ValueError") (by rfl) T.z_ValueError PyProof.Rows.Boot.«ValueError» rfl) pa_nil))))))
      (pss_one (ps_ret (pe_tup (pa_cons pe_str (pa_cons pe_str (pa_cons (pe_xf (T.X_OnLine).xf (T.X_OnLine).nf hz hf (pv 2)) (pa_cons (pe_and (pv 3) (pe_one (pe_not (pe_callB (call_isExT hz hf) (by rfl) T.z_isinstance PyProof.Rows.boot_isinstance (pa_cons (pv 2) (pa_cons (pe_tup (pa_cons (pe_glob (v := .ref T.a_TooFar) (by rfl) T.g_TooFar rfl) (pa_cons (pe_glob (v := .ref T.a_WrongCount) (by rfl) T.g_WrongCount rfl) pa_nil))) pa_nil)))))) pa_nil))))))))) Clauses.nil))))
      (pss_one (ps_ret (pe_tup (pa_cons pe_str (pa_cons pe_str (pa_cons (pe_fld (pv 1) rfl) (pa_cons (pe_callB call_isi (by rfl) T.z_isinstance PyProof.Rows.boot_isinstance (pa_cons (pv 1) (pa_cons (pe_glob (v := .ref T.a_Floor) (by rfl) T.g_Floor rfl) pa_nil))) pa_nil)))))))), ?_⟩
  have hb : ∀ W' : WX, JS K T.M W' (tbMade T W') (entry N__law_made (args__law_made T a)) (asgR (entry N__law_made (args__law_made T a)) 1 (outO K T.a_Floor (floorE a) (.tuple (a.map pD)))) := fun W' => js_setO (mk_floor T (ja_cons (je_var (i := 0) rfl) ja_nil))
  have ho : out__law_made T a = .ok (dv K (orE (floorE a) (flD a))) := rfl
  rw [ho] at th
  cases hq : floorE a with
  | some e =>
    rw [hq] at hb th
    refine fin_ok (r := .rt (dv K (raisedD e))) (js_rt (js_try_er (tb := tbMade T) hb ?_)) (by exact rfl) fh al th
    rcases floorE_c hq with ⟨v, rfl⟩ | ⟨v, rfl⟩ | ⟨xs, rfl⟩
    · exact .inl ⟨T.x_WrongCount_WrongCount, suite_std (c := .WrongCount) (show 2 < 4 by decide) (show 3 < 4 by decide) (by decide) T.X_WrongCount.ek T.k_WrongCount_BowlError T.k_WrongCount_ValueError T.k_WrongCount_OnLine_TooFar⟩
    · exact .inr ⟨T.x_TooFar_WrongCount, .inl ⟨T.x_TooFar_TooFar, suite_std (c := .TooFar) (show 2 < 4 by decide) (show 3 < 4 by decide) (by decide) T.X_TooFar.ek T.k_TooFar_BowlError T.k_TooFar_ValueError T.k_TooFar_OnLine_WrongCount⟩⟩
    · exact .inr ⟨T.x_OnLine_WrongCount, .inr ⟨T.x_OnLine_TooFar, .inl ⟨T.x_OnLine_OnLine, suite_std (c := .OnLine) (show 2 < 4 by decide) (show 3 < 4 by decide) (by decide) T.X_OnLine.ek T.k_OnLine_BowlError T.k_OnLine_ValueError T.k_OnLine_TooFar_WrongCount⟩⟩⟩
  | none =>
    rw [hq] at hb th
    exact fin_ok (r := .rt (dv K (flD a))) (js_seq (js_try_ok (tb := tbMade T) (r := .nx ((entry N__law_made (args__law_made T a)).set 1 (some (ob1 K T.a_Floor "points" (.tuple (a.map pD)))))) hb (fun _ q => nomatch q))
      (js_ret (je_tup (ds := [.str "floor", .str "", .tuple (a.map pD), .bool true]) (ja_cons je_str (ja_cons je_str (ja_cons (je_fld (C := T.a_Floor) (je_var (i := 1) rfl) T.C_Floor T.n_Floor_points) (ja_cons (je_isOb (je_var (i := 1) rfl) T.C_Floor T.ca_Floor T.gn T.tkc T.mo_Floor T.ki_Floor) ja_nil))))))) (by exact rfl) fh al th
def args__law_refusal {K : PySem.W.Frag} {mg : Str → Option Value} (T : Tx K mg) : List (Int × Int) → List PV := args__law_made T
def dom__law_refusal : List (Int × Int) → Prop := fun a => ∀ p ∈ a, near p
def out__law_refusal {K : PySem.W.Frag} {mg : Str → Option Value} (T : Tx K mg) : List (Int × Int) → Out := out__law_made T
theorem js_endsO {K : PySem.W.Frag} {M : EC → Addr} {W : WX} {ts : TS} {ps rs qs : Kn} {o : Option Out} (h : JS K M W ts ps (ends rs o)) (w : Weak rs qs) : JS K M W ts ps (ends qs o) := by
  cases o with
  | none => exact js_weak h w
  | some e => exact h
/-- a loop over L that is left at the first x with f x -/
theorem js_first {K : PySem.W.Frag} {M : EC → Addr} {W : WX} {ps : Kn} {vs : List Nat} {wi : TI} {g : TG} {tb : TS} {α β : Type} (L : List α) (enc : α → PyData) (f : α → Option β) (h : β → Out) (hi : JI K M W wi ps (L.map enc))
    (hs : ∀ x ∈ L, ∃ qs, JG vs g ps (dv K (enc x)) qs ∧ JS K M W tb qs (ends ps ((f x).map h))) : JS K M W (tFor wi g tb) ps (ends ps ((L.findSome? f).map h)) := by
  have key := js_search (M := M) (W := W) (g := g) (tb := tb) (vs := vs) (fun i => (L[i]?.bind f).map h) hi fun (i : Nat) (d : PyData) (hd : (L.map enc)[i]? = some d) => by
    have hlt : i < L.length := by
      have := (List.getElem?_eq_some_iff.mp hd).1
      rw [List.length_map] at this
      exact this
    rw [List.getElem?_map, List.getElem?_eq_getElem hlt] at hd
    cases hd
    obtain ⟨qs, hg, hb⟩ := hs L[i] (List.getElem_mem hlt)
    refine ⟨qs, hg, .inl ?_⟩
    show JS K M W tb qs (ends ps ((L[i]?.bind f).map h))
    rw [List.getElem?_eq_getElem hlt]
    exact hb
  rw [List.length_map, first_map, first_ix] at key
  exact key
theorem rg_mem {lo x : Int} {m : Nat} (h : x ∈ rg lo m) : lo ≤ x ∧ x < lo + m := by
  unfold rg at h
  obtain ⟨i, hi, rfl⟩ := List.mem_map.mp h
  have := List.mem_range.mp hi
  omega
theorem first_flat {α β γ : Type} (g : α → List β) (f : β → Option γ) : ∀ L : List α, (L.flatMap g).findSome? f = L.findSome? fun x => (g x).findSome? f
  | [] => rfl
  | x :: r => by
    rw [List.flatMap_cons, List.findSome?_append, List.findSome?_cons, first_flat g f r]
    cases (g x).findSome? f <;> rfl
abbrev beh (a : Int) (n : Nat) : List Int := rg (a + 1) ((n : Int) - (a + 1)).toNat
theorem subs3_eq : ∀ n : Nat, n < 11 → subsL n 3 = (rg 0 n).flatMap fun a => (beh a n).flatMap fun b => (beh b n).map fun c => [a, b, c] := by decide +kernel
theorem onLine_eq {pts : List (Int × Int)} (hl : pts.length ≤ 10) : onLine pts = (rg 0 pts.length).findSome? fun a => (beh a pts.length).findSome? fun b => (beh b pts.length).findSome? fun c => lineOf pts [a, b, c] := by
  unfold onLine
  rw [subs3_eq _ (by omega), first_flat]
  congr 1
  funext a
  rw [first_flat]
  congr 1
  funext b
  rw [List.findSome?_map]
  rfl
theorem badXY_two (p : Int × Int) : badXY p = [p.1, p.2].findSome? tf := by
  unfold badXY tf
  simp only [List.findSome?_cons, List.findSome?_nil]
  cases inR (-FAR) p.1 FAR <;> cases inR (-FAR) p.2 FAR <;> rfl
theorem far_not (v : Int) : decide (1000000 < if v < 0 then -v else v) = !inR (-FAR) v FAR := by
  unfold inR FAR
  by_cases h0 : v < 0
  · rw [if_pos h0]
    have h1 : v ≤ 1000000 := by omega
    by_cases h2 : -1000000 ≤ v
    · have h3 : ¬ 1000000 < -v := by omega
      simp [h1, h2, h3]
    · have h3 : 1000000 < -v := by omega
      simp [h2, h3]
  · rw [if_neg h0]
    have h1 : -1000000 ≤ v := by omega
    by_cases h2 : v ≤ 1000000
    · have h3 : ¬ 1000000 < v := by omega
      simp [h1, h2, h3]
    · have h3 : 1000000 < v := by omega
      simp [h2, h3]
theorem cnt_not (n : Nat) : (decide ((n : Int) < 3) || decide (10 < (n : Int))) = !inR 3 n 10 := by
  unfold inR
  by_cases h1 : (n : Int) < 3
  · have h2 : ¬ 3 ≤ (n : Int) := by omega
    simp [h1, h2]
  · have h2 : 3 ≤ (n : Int) := by omega
    by_cases h3 : 10 < (n : Int)
    · have h4 : ¬ (n : Int) ≤ 10 := by omega
      simp [h1, h2, h3, h4]
    · have h4 : (n : Int) ≤ 10 := by omega
      simp [h1, h2, h3, h4]
def tell (K : PySem.W.Frag) (e : Er) : Out := .ok (dv K (raisedD e))
theorem ok__law_refusal {P : Program} {w : World} {K : PySem.W.Frag} {mg : Str → Option Value} {base : Heap} (T : Tx K mg) : FnOk P w K mg base (L2.CX P w) 2 T.a__law_refusal T.fd__law_refusal ["points"] (Prm K T.M (args__law_refusal T) dom__law_refusal (out__law_refusal T)) := by
  refine T.F__law_refusal.okX sc__law_refusal (fun vs H Q E h => by obtain ⟨a, F, _, al, _⟩ := h; exact al.length) (fun cdv A outer s H vs Q E hr h => ?_)
  have tk : Takes (cxOf (L2.CX P w) P w K mg base N__law_refusal "_law_refusal" (defScope s__law_refusal) T.a__law_refusal cdv A outer s H E) (fun cls d _ H => E cls d H) := takes_of rfl rfl rfl rfl
  obtain ⟨a, F, fh, al, hd, th⟩ := h
  refine ⟨_, (pss_cons (ps_if (PW.pt (pw_or (pt_cmpR op_lt (pe_callB call_len_seq (by rfl) T.z_len PySem.boot_len (pa_cons (pv 0) pa_nil)) pe_int (nomark _)) (pw_or1 (pt_cmpR op_gt (pe_callB call_len_seq (by rfl) T.z_len PySem.boot_len (pa_cons (pv 0) pa_nil)) pe_int (nomark _))))) (pss_one (ps_ret (pe_tup (pa_cons pe_str (pa_cons pe_str (pa_cons (pe_callB call_len_seq (by rfl) T.z_len PySem.boot_len (pa_cons (pv 0) pa_nil)) (pa_cons pe_bl pa_nil))))))) pss_nil)
      (pss_cons (ps_for (passes_of rfl) rfl (pi_list (pv 0)) (pg_name (i := 1) sc__law_refusal.nd rfl (by first | exact Or.inl rfl | exact Or.inr rfl)) (pss_one (ps_for (passes_of rfl) rfl (pi_tup (pv 1)) (pg_name (i := 2) sc__law_refusal.nd rfl (by first | exact Or.inl rfl | exact Or.inr rfl)) (pss_one (ps_if (pt_cmpR op_gt (pe_callB call_abs (by rfl) T.z_abs (by decide +kernel) (pa_cons (pv 2) pa_nil)) pe_int (nomark _)) (pss_one (ps_ret (pe_tup (pa_cons pe_str (pa_cons pe_str (pa_cons (pv 2) (pa_cons pe_bl pa_nil))))))) pss_nil)))))
      (pss_cons (ps_for (passes_of rfl) rfl (pi_range1 (by rfl) T.z_range (pa_cons (pe_callB call_len_seq (by rfl) T.z_len PySem.boot_len (pa_cons (pv 0) pa_nil)) pa_nil)) (pg_name (i := 3) sc__law_refusal.nd rfl (by first | exact Or.inl rfl | exact Or.inr rfl)) (pss_one (ps_for (passes_of rfl) rfl (pi_range2 (by rfl) T.z_range (pa_cons (pe_op op_add (pv 3) pe_int) (pa_cons (pe_callB call_len_seq (by rfl) T.z_len PySem.boot_len (pa_cons (pv 0) pa_nil)) pa_nil))) (pg_name (i := 4) sc__law_refusal.nd rfl (by first | exact Or.inl rfl | exact Or.inr rfl)) (pss_one (ps_for (passes_of rfl) rfl (pi_range2 (by rfl) T.z_range (pa_cons (pe_op op_add (pv 4) pe_int) (pa_cons (pe_callB call_len_seq (by rfl) T.z_len PySem.boot_len (pa_cons (pv 0) pa_nil)) pa_nil))) (pg_name (i := 5) sc__law_refusal.nd rfl (by first | exact Or.inl rfl | exact Or.inr rfl)) (pss_one (ps_if (pt_cmpR op_eq (pe_callS (ok__law_area T) (hr.mono (by decide)) (by rfl) T.g__law_area T.F__law_area.kp (b__law_area T) (fun σ => passAt tk σ) (pa_cons (pe_ix ix_list (pv 0) (pv 3) (fun _ _ => rfl)) (pa_cons (pe_ix ix_list (pv 0) (pv 4) (fun _ _ => rfl)) (pa_cons (pe_ix ix_list (pv 0) (pv 5) (fun _ _ => rfl)) pa_nil)))) pe_int (nomark _)) (pss_one (ps_ret (pe_tup (pa_cons pe_str (pa_cons pe_str (pa_cons (pe_tup (pa_cons (pv 3) (pa_cons (pv 4) (pa_cons (pv 5) pa_nil)))) (pa_cons pe_bl pa_nil))))))) pss_nil)))))))
      (pss_one (ps_ret (pe_tup (pa_cons pe_str (pa_cons pe_str (pa_cons (pe_callTy call_tuple_of (by rfl) T.z_tuple PyProof.Rows.boot_tuple (pa_cons (pv 0) pa_nil)) (pa_cons pe_bl pa_nil)))))))))), ?_⟩
  let W0 : WX := fun cls d _ H => E cls d H
  let ps0 : Kn := [some (dv K (.list (a.map pD))), none, none, none, none, none]
  have ho : out__law_refusal T a = .ok (dv K (orE (floorE a) (flD a))) := rfl
  rw [ho] at th
  have len : ∀ ps : Kn, ps[0]? = some (some (dv K (.list (a.map pD)))) → JD K T.M W0 (tCB (rLenS K) (tCons (tVar 0) tNil)) ps (.int a.length) := fun ps h => je_is (je_lenL (je_var (ps := ps) (i := 0) h)) (by rw [List.length_map])
  have t1 := jt_or (jt_test (je_lt (len ps0 rfl) (je_int (i := 3)))) (fun _ => jt_test (je_gt (len ps0 rfl) (je_int (i := 10))))
  rw [cnt_not] at t1
  cases h1 : inR 3 a.length 10 with
  | false =>
    rw [h1] at t1
    have e1 : floorE a = some ⟨.WrongCount, .int a.length⟩ := by
      unfold floorE
      rw [h1]
    rw [e1] at th
    exact fin_ok (r := .rt (dv K (raisedD ⟨.WrongCount, .int a.length⟩))) (js_rt (js_if t1 (fun _ => js_ret (je_tup (ds := [.str "raised", .str "WrongCount", .int a.length, .bool true]) (ja_cons je_str (ja_cons je_str (ja_cons (len ps0 rfl) (ja_cons je_bl ja_nil)))))) (fun z => Bool.noConfusion z))) (by exact rfl) fh al th
  | true =>
    rw [h1] at t1
    have hl : a.length ≤ 10 := by
      unfold inR at h1
      simp only [Bool.and_eq_true, decide_eq_true_eq] at h1
      omega
    have e1 : floorE a = (badPts a).or (onLine a) := by
      unfold floorE
      rw [h1]
      dsimp only
      cases badPts a <;> rfl
    have l1 : JS K T.M W0 (tFor (iList K (tVar 0)) (gName 1) (tFor (iTup K (tVar 1)) (gName 2) (tIfS (tTest (tOp (rI0 fun i j => .bl (decide (j < i))) (tCB rAbs (tCons (tVar 2) tNil)) (tC (.int 1000000)))) (tRet (tTup (tCons (tC (.str "raised")) (tCons (tC (.str "TooFar")) (tCons (tVar 2) (tCons (tC (.bl true)) tNil)))))) tNext))) ps0 (ends ps0 ((badPts a).map (tell K))) := js_first (vs := [1]) a pD badXY (tell K) (ji_list (je_var (i := 0) rfl)) fun p hp => ⟨_, jg_name, by
      rw [badXY_two]
      exact js_endsO (js_first (vs := [2]) [p.1, p.2] .int tf (tell K) (ji_tup (je_var (i := 1) rfl)) fun v hv => ⟨_, jg_name, by
        have t2 := jt_test (je_gt (je_abs (je_var (K := K) (M := T.M) (W := W0) (ps := [some (dv K (.list (a.map pD))), some (dv K (pD p)), some (dv K (.int v)), none, none, none]) (i := 2) rfl)) (je_int (i := 1000000)))
        rw [far_not] at t2
        cases h2 : inR (-FAR) v FAR with
        | false =>
          rw [h2] at t2
          rw [show tf v = some ⟨.TooFar, .int v⟩ by unfold tf; rw [h2]]
          exact js_if t2 (fun _ => js_ret (je_tup (ds := [.str "raised", .str "TooFar", .int v, .bool true]) (ja_cons je_str (ja_cons je_str (ja_cons (je_var (i := 2) rfl) (ja_cons je_bl ja_nil)))))) (fun z => Bool.noConfusion z)
        | true =>
          rw [h2] at t2
          rw [show tf v = none by unfold tf; rw [h2]]
          exact js_if t2 (fun z => Bool.noConfusion z) (fun _ => js_weak js_next ⟨.inr rfl, .inr rfl, .inl rfl, .inr rfl, .inr rfl, .inr rfl, trivial⟩)⟩) ⟨.inr rfl, .inl rfl, .inr rfl, .inr rfl, .inr rfl, .inr rfl, trivial⟩⟩
    cases h2 : badPts a with
    | some e =>
      rw [h2] at l1 e1
      rw [show floorE a = some e from e1] at th
      exact fin_ok (r := .rt (dv K (raisedD e))) (js_seq (js_if t1 (fun z => Bool.noConfusion z) (fun _ => js_next)) (js_rt l1)) (by exact rfl) fh al th
    | none =>
      rw [h2] at l1 e1
      rw [show floorE a = onLine a from e1] at th
      have rng1 : JI K T.M W0 (iRng1 (tCons (tCB (rLenS K) (tCons (tVar 0) tNil)) tNil)) ps0 ((rg 0 a.length).map .int) := by
        have := ji_rng1 (ja_cons (len ps0 rfl) ja_nil) ⟨by omega, by omega⟩
        rw [Int.toNat_natCast] at this
        exact this
      have l2 : JS K T.M W0 (tFor (iRng1 (tCons (tCB (rLenS K) (tCons (tVar 0) tNil)) tNil)) (gName 3) (tFor (iRng2 (tCons (tOp (rI0 fun i j => .int (i + j)) (tVar 3) (tC (.int 1))) (tCons (tCB (rLenS K) (tCons (tVar 0) tNil)) tNil))) (gName 4) (tFor (iRng2 (tCons (tOp (rI0 fun i j => .int (i + j)) (tVar 4) (tC (.int 1))) (tCons (tCB (rLenS K) (tCons (tVar 0) tNil)) tNil))) (gName 5) (tIfS (tTest (tOp rEq (tCallS (Prm K T.M (args__law_area T) dom__law_area (out__law_area T)) (WE W0) (tCons (tOp (rIxL K) (tVar 0) (tVar 3)) (tCons (tOp (rIxL K) (tVar 0) (tVar 4)) (tCons (tOp (rIxL K) (tVar 0) (tVar 5)) tNil)))) (tC (.int 0)))) (tRet (tTup (tCons (tC (.str "raised")) (tCons (tC (.str "OnLine")) (tCons (tTup (tCons (tVar 3) (tCons (tVar 4) (tCons (tVar 5) tNil)))) (tCons (tC (.bl true)) tNil)))))) tNext)))) ps0 (ends ps0 ((onLine a).map (tell K))) := by
        rw [onLine_eq hl]
        refine js_first (vs := [3]) (rg 0 a.length) .int _ (tell K) rng1 fun i hi => ⟨_, jg_name, ?_⟩
        have hi2 := rg_mem hi
        refine js_endsO (js_first (vs := [4]) (beh i a.length) .int _ (tell K) (ji_rng2 (lo := i + 1) (n := a.length) (ja_cons (je_add (je_var (i := 3) rfl) je_int) (ja_cons (len _ rfl) ja_nil)) ⟨by omega, by omega, by omega, by omega⟩) fun j hj => ⟨_, jg_name, ?_⟩) ⟨.inr rfl, .inr rfl, .inr rfl, .inl rfl, .inr rfl, .inr rfl, trivial⟩
        have hj2 := rg_mem hj
        refine js_endsO (js_first (vs := [5]) (beh j a.length) .int _ (tell K) (ji_rng2 (lo := j + 1) (n := a.length) (ja_cons (je_add (je_var (i := 4) rfl) je_int) (ja_cons (len _ rfl) ja_nil)) ⟨by omega, by omega, by omega, by omega⟩) fun k hk => ⟨_, jg_name, ?_⟩) ⟨.inr rfl, .inr rfl, .inr rfl, .inr rfl, .inl rfl, .inr rfl, trivial⟩
        have hk2 := rg_mem hk
        have no : ∀ x : Int, 0 ≤ x → x < a.length → isNo x a.length = true := fun x h3 h4 => by
          unfold isNo
          simp [h3, h4]
        have hc := je_eqI (je_call (K := K) (M := T.M) (W := W0) (ps := [some (dv K (.list (a.map pD))), none, none, some (dv K (.int i)), some (dv K (.int j)), some (dv K (.int k))]) (args := args__law_area T) (dom := dom__law_area) (out := out__law_area T) (pt a i, pt a j, pt a k)
          (ja_cons (je_ixL (je_var (i := 0) rfl) (je_var (i := 3) rfl) (at_pt (no i (by omega) (by omega)))) (ja_cons (je_ixL (je_var (i := 0) rfl) (je_var (i := 4) rfl) (at_pt (no j (by omega) (by omega)))) (ja_cons (je_ixL (je_var (i := 0) rfl) (je_var (i := 5) rfl) (at_pt (no k (by omega) (by omega)))) ja_nil))) ⟨near_pt hd _, near_pt hd _, near_pt hd _⟩) (je_int (i := 0))
        by_cases h0 : area (pt a i) (pt a j) (pt a k) = 0
        · rw [show lineOf a [i, j, k] = some ⟨.OnLine, tupI [i, j, k]⟩ from if_pos h0]
          exact js_if (b := true) (jt_is (jt_test hc) (decide_eq_true h0)) (fun _ => js_ret (je_tup (ds := [.str "raised", .str "OnLine", tupI [i, j, k], .bool true]) (ja_cons je_str (ja_cons je_str (ja_cons (je_tup (ds := [.int i, .int j, .int k]) (ja_cons (je_var (i := 3) rfl) (ja_cons (je_var (i := 4) rfl) (ja_cons (je_var (i := 5) rfl) ja_nil)))) (ja_cons je_bl ja_nil)))))) (fun z => Bool.noConfusion z)
        · rw [show lineOf a [i, j, k] = none from if_neg h0]
          exact js_if (b := false) (jt_is (jt_test hc) (decide_eq_false h0)) (fun z => Bool.noConfusion z) (fun _ => js_weak js_next ⟨.inr rfl, .inr rfl, .inr rfl, .inr rfl, .inr rfl, .inl rfl, trivial⟩)
      cases h3 : onLine a with
      | some e =>
        rw [h3] at l2 th
        exact fin_ok (r := .rt (dv K (raisedD e))) (js_seq (js_if t1 (fun z => Bool.noConfusion z) (fun _ => js_next)) (js_seq l1 (js_rt l2))) (by exact rfl) fh al th
      | none =>
        rw [h3] at l2 th
        exact fin_ok (r := .rt (dv K (flD a))) (js_seq (js_if t1 (fun z => Bool.noConfusion z) (fun _ => js_next)) (js_seq l1 (js_seq l2
          (js_ret (je_tup (ds := [.str "floor", .str "", .tuple (a.map pD), .bool true]) (ja_cons je_str (ja_cons je_str (ja_cons (je_tupL (je_var (i := 0) rfl)) (ja_cons je_bl ja_nil))))))))) (by exact rfl) fh al th
end K12

namespace K12
open PySem PySem.Spec PyProof.Rows L2 Evl EB
/-! ### len, left_of, others, only, without -/
theorem fin_go {K : PySem.W.Frag} {M : EC → Addr} {ts tu : TS} {N : List Str} {Ps : List PV} {vs : List V} {F H : Hp} {Q : VK} {E : XK} {o : Option Er} {d : PyData} (h : JS K M (fun cls d _ H => E cls d H) ts (entry N Ps) (ends (entry N Ps) (o.map Out.er))) (h2 : o = none → JS K M (fun cls d _ H => E cls d H) tu (entry N Ps) (.rt (dv K d))) (fh : Ex F H) (al : AllP F vs Ps) (th : Then K M F H Q E (outV K o d)) : tSeq ts tu { nx := fun _ H' => Q .non H', rt := Q } (start N vs) H := by
  obtain ⟨r, hz, hf⟩ := fin_then h h2
  exact fin_ok hz hf fh al th
theorem je_pts {K : PySem.W.Frag} {mg : Str → Option Value} (T : Tx K mg) {M : EC → Addr} {W : WX} {ps : Kn} {te : TE} {pts : List (Int × Int)} (h : JV K M W te ps (ob1 K T.a_Floor "points" (.tuple (pts.map pD)))) : JD K M W (tFld K te "points") ps (.tuple (pts.map pD)) := je_fld (C := T.a_Floor) h T.C_Floor T.n_Floor_points
theorem je_many {K : PySem.W.Frag} {mg : Str → Option Value} (T : Tx K mg) {M : EC → Addr} {W : WX} {ps : Kn} {te : TE} {pts : List (Int × Int)} (h : JV K M W te ps (ob1 K T.a_Floor "points" (.tuple (pts.map pD)))) : JD K M W (tCB (rLenS K) (tCons (tFld K te "points") tNil)) ps (.int pts.length) := je_is (je_lenT (je_pts T h)) (by rw [List.length_map])
def args_Floor___len__ {K : PySem.W.Frag} {mg : Str → Option Value} (T : Tx K mg) : List (Int × Int) → List PV := fun a => [ob1 K T.a_Floor "points" (.tuple (a.map pD))]
def dom_Floor___len__ : List (Int × Int) → Prop := fun _ => True
def out_Floor___len__ {K : PySem.W.Frag} {mg : Str → Option Value} (T : Tx K mg) : List (Int × Int) → Out := fun a => .ok (dv K (.int a.length))
theorem ok_Floor___len__ {P : Program} {w : World} {K : PySem.W.Frag} {mg : Str → Option Value} {base : Heap} (T : Tx K mg) : FnOk P w K mg base (L2.CX P w) 1 T.a_Floor___len__ T.fd_Floor___len__ ["self"] (Prm K T.M (args_Floor___len__ T) dom_Floor___len__ (out_Floor___len__ T)) := by
  refine T.F_Floor___len__.okX sc_Floor___len__ (fun vs H Q E h => by obtain ⟨a, F, _, al, _⟩ := h; exact al.length) (fun cdv A outer s H vs Q E hr h => ?_)
  have tk : Takes (cxOf (L2.CX P w) P w K mg base N_Floor___len__ "Floor.__len__" (defScope s_Floor___len__) T.a_Floor___len__ cdv A outer s H E) (fun cls d _ H => E cls d H) := takes_of rfl rfl rfl rfl
  obtain ⟨a, F, fh, al, hd, th⟩ := h
  refine ⟨_, (pss_one (ps_ret (pe_callB call_len_seq (by rfl) T.z_len PySem.boot_len (pa_cons (pe_fld (pv 0) rfl) pa_nil)))), ?_⟩
  exact fin_ok (r := .rt (dv K (.int a.length))) (js_ret (je_many T (je_var (i := 0) rfl))) (by exact rfl) fh al th
theorem je_lenF {K : PySem.W.Frag} {mg : Str → Option Value} (T : Tx K mg) {W : WX} {ps : Kn} {te : TE} {pts : List (Int × Int)} (h : JV K T.M W te ps (ob1 K T.a_Floor "points" (.tuple (pts.map pD)))) (hl : pts.length ≤ 1000) : JD K T.M W (tCB (rLenO T.a_Floor (Prm K T.M (args_Floor___len__ T) dom_Floor___len__ (out_Floor___len__ T)) fun _ _ _ => False) (tCons te tNil)) ps (.int pts.length) :=
  je_lenO pts h rfl trivial rfl (by omega) (by omega)
def oth (n : Nat) (k : Int) : List Int := (rg 0 n).filter fun i => !decide (i = k)
def args_others {K : PySem.W.Frag} {mg : Str → Option Value} (T : Tx K mg) : Nat × Int → List PV := fun a => [dv K (.int a.1), dv K (.int a.2)]
def dom_others : Nat × Int → Prop := fun a => a.1 ≤ 1000
def out_others {K : PySem.W.Frag} {mg : Str → Option Value} (T : Tx K mg) : Nat × Int → Out := fun a => .ok (dv K (.list ((oth a.1 a.2).map .int)))
theorem ji_upto {K : PySem.W.Frag} {M : EC → Addr} {W : WX} {ps : Kn} {te : TE} {n : Nat} (h : JD K M W te ps (.int n)) (hn : n ≤ 1000) : JI K M W (iRng1 (tCons te tNil)) ps ((rg 0 n).map PyData.int) := by
  have := ji_rng1 (ja_cons h ja_nil) ⟨by omega, by omega⟩
  rw [Int.toNat_natCast] at this
  exact this
theorem ok_others {P : Program} {w : World} {K : PySem.W.Frag} {mg : Str → Option Value} {base : Heap} (T : Tx K mg) : FnOk P w K mg base (L2.CX P w) 1 T.a_others T.fd_others ["n", "number"] (Prm K T.M (args_others T) dom_others (out_others T)) := by
  refine T.F_others.okX sc_others (fun vs H Q E h => by obtain ⟨a, F, _, al, _⟩ := h; exact al.length) (fun cdv A outer s H vs Q E hr h => ?_)
  have tk : Takes (cxOf (L2.CX P w) P w K mg base N_others "others" (defScope s_others) T.a_others cdv A outer s H E) (fun cls d _ H => E cls d H) := takes_of rfl rfl rfl rfl
  obtain ⟨a, F, fh, al, hd, th⟩ := h
  refine ⟨_, (pss_one (ps_ret (pe_lc (own := [("k", 2)]) (g := (gName 2)) (tt := (tTest (tOp rNe (tVar 2) (tVar 1)))) (te := (tVar 2)) rfl sc_others.nd (pi_range1 (by rfl) T.z_range (pa_cons (pv 0) pa_nil)) (blkOk_by (N := N_others) (sc := defScope s_others) (own := [("k", 2)]) (by decide +kernel)) (fun _ _ _ _ _ => (pg_name (i := 2) sc_others.nd rfl (by first | exact Or.inl rfl | exact Or.inr rfl))) (fun _ _ _ _ _ => by exact pts_one (pt_cmpR op_ne (pv 2) (pv 1) (nomark _))) (fun _ _ _ _ _ => by exact (pv 2))))), ?_⟩
  obtain ⟨n, k⟩ := a
  have hn : n ≤ 1000 := hd
  refine fin_ok (r := .rt (dv K (.list ((oth n k).map .int)))) (js_ret (je_lc (W' := fun _ _ _ _ => False) (rg 0 n) .int (fun i => !decide (i = k)) .int (ji_upto (je_var (i := 0) rfl) hn) (by rw [rg_length]; omega) fun x _ => ⟨_, jg_name, jt_test (je_neI (je_var (i := 2) rfl) (je_var (i := 1) rfl)), fun _ => je_var (i := 2) rfl⟩)) (by exact rfl) fh al th
def leftN (pts : List (Int × Int)) (a b : Int) : List Nat := (List.range pts.length).filter fun c => decide (0 < area (pt pts a) (pt pts b) (pt pts c))
def leftD (pts : List (Int × Int)) (a b : Int) : PyData := .list ((leftN pts a b).map fun c : Nat => .int (c : Int))
def args_Floor_left_of {K : PySem.W.Frag} {mg : Str → Option Value} (T : Tx K mg) : List (Int × Int) × Int × Int → List PV := fun a => [ob1 K T.a_Floor "points" (.tuple (a.1.map pD)), dv K (.int a.2.1), dv K (.int a.2.2)]
def dom_Floor_left_of : List (Int × Int) × Int × Int → Prop := fun a => a.1.length ≤ 10 ∧ ∀ p ∈ a.1, near p
def out_Floor_left_of {K : PySem.W.Frag} {mg : Str → Option Value} (T : Tx K mg) : List (Int × Int) × Int × Int → Out := fun a => outV K (badNos a.1.length [a.2.1, a.2.2]) (leftD a.1 a.2.1 a.2.2)
theorem no2 {n : Int} {a b : Int} (h : badNos n [a, b] = none) : isNo a n = true ∧ isNo b n = true := by
  have key : ∀ k i, k < 2 → [a, b][k]? = some i → isNo i n = true := fun k i hk hi => by
    have := List.findSome?_eq_none_iff.mp h k (List.mem_range.mpr hk)
    unfold badNo at this
    rw [hi] at this
    dsimp only at this
    cases h1 : isNo i n with
    | true => rfl
    | false => rw [h1] at this; cases this
  exact ⟨key 0 a (by decide) rfl, key 1 b (by decide) rfl⟩
theorem nb_pts (pts : List (Int × Int)) : nb (pts.map pD) = (List.range pts.length).map fun c : Nat => .tuple [.int (c : Int), pD (pt pts c)] := by
  apply List.ext_getElem?
  intro i
  by_cases h : i < pts.length
  · rw [nb_get (d := pD (pt pts i)) (by rw [List.getElem?_map, List.getElem?_eq_getElem h]; unfold pt; simp [h]), List.getElem?_map, List.getElem?_range h]
    rfl
  · rw [List.getElem?_eq_none (by rw [nb_length, List.length_map]; omega), List.getElem?_eq_none (by rw [List.length_map, List.length_range]; omega)]
theorem ok_Floor_left_of {P : Program} {w : World} {K : PySem.W.Frag} {mg : Str → Option Value} {base : Heap} (T : Tx K mg) : FnOk P w K mg base (L2.CX P w) 5 T.a_Floor_left_of T.fd_Floor_left_of ["self", "a", "b"] (Prm K T.M (args_Floor_left_of T) dom_Floor_left_of (out_Floor_left_of T)) := by
  refine T.F_Floor_left_of.okX sc_Floor_left_of (fun vs H Q E h => by obtain ⟨a, F, _, al, _⟩ := h; exact al.length) (fun cdv A outer s H vs Q E hr h => ?_)
  have tk : Takes (cxOf (L2.CX P w) P w K mg base N_Floor_left_of "Floor.left_of" (defScope s_Floor_left_of) T.a_Floor_left_of cdv A outer s H E) (fun cls d _ H => E cls d H) := takes_of rfl rfl rfl rfl
  obtain ⟨a, F, fh, al, hd, th⟩ := h
  refine ⟨_, (pss_cons (ps_expr (pe_callS (ok_check_numbers T) (hr.mono (by decide)) (by rfl) T.g_check_numbers T.F_check_numbers.kp (b_check_numbers T) (fun σ => passAt tk σ) (pa_cons (pe_tup (pa_cons (pv 1) (pa_cons (pv 2) pa_nil))) (pa_cons (pe_callB call_len_seq (by rfl) T.z_len PySem.boot_len (pa_cons (pe_fld (pv 0) rfl) pa_nil)) pa_nil))))
      (pss_cons (ps_asg (pe_tup (pa_cons (pe_ix ix_tup (pe_fld (pv 0) rfl) (pv 1) (fun _ _ => rfl)) (pa_cons (pe_ix ix_tup (pe_fld (pv 0) rfl) (pv 2) (fun _ _ => rfl)) pa_nil))) (pg_tup rfl (pgs_cons (pg_name (i := 3) sc_Floor_left_of.nd rfl (by first | exact Or.inl rfl | exact Or.inr rfl)) (pgs_cons (pg_name (i := 4) sc_Floor_left_of.nd rfl (by first | exact Or.inl rfl | exact Or.inr rfl)) pgs_nil))))
      (pss_one (ps_ret (pe_lc (own := [("c", 5), ("point", 6)]) (g := (gTup K 2 (gCons (gName 5) (gCons (gName 6) gNil)))) (tt := (tTest (tOp (rI0 fun i j => .bl (decide (j < i))) (tCallS (Prm K T.M (args_bare_area T) dom_bare_area (out_bare_area T)) (WE fun _ _ _ _ => False) (tCons (tVar 3) (tCons (tVar 4) (tCons (tVar 6) tNil)))) (tC (.int 0))))) (te := (tVar 5)) rfl sc_Floor_left_of.nd (pi_enumT (by rfl) T.z_enumerate (pa_cons (pe_fld (pv 0) rfl) pa_nil)) (blkOk_by (N := N_Floor_left_of) (sc := defScope s_Floor_left_of) (own := [("c", 5), ("point", 6)]) (by decide +kernel)) (fun _ _ _ _ _ => (pg_tup rfl (pgs_cons (pg_name (i := 5) sc_Floor_left_of.nd rfl (by first | exact Or.inl rfl | exact Or.inr rfl)) (pgs_cons (pg_name (i := 6) sc_Floor_left_of.nd rfl (by first | exact Or.inl rfl | exact Or.inr rfl)) pgs_nil)))) (fun _ _ _ _ _ => by exact pts_one (pt_cmpR op_gt (pe_callS (ok_bare_area T) (hr.mono (by decide)) (by rfl) T.g_bare_area T.F_bare_area.kp (b_bare_area T) (fun σ => passAt takes0 σ) (pa_cons (pv 3) (pa_cons (pv 4) (pa_cons (pv 6) pa_nil)))) pe_int (nomark _))) (fun _ _ _ _ _ => by exact (pv 5))))))), ?_⟩
  obtain ⟨pts, u, v⟩ := a
  obtain ⟨hl, hnear⟩ := hd
  simp only at hl
  let W0 : WX := fun cls d _ H => E cls d H
  have pf : ∀ ps : Kn, ps[0]? = some (some (ob1 K T.a_Floor "points" (.tuple (pts.map pD)))) → JD K T.M W0 (tFld K (tVar 0) "points") ps (.tuple (pts.map pD)) := fun ps h => je_pts T (je_var (i := 0) h)
  have c1 := js_out (je_call (K := K) (M := T.M) (W := W0) (ps := entry N_Floor_left_of (args_Floor_left_of T (pts, u, v))) (args := args_check_numbers T) (dom := dom_check_numbers) (out := out_check_numbers T) (false, [u, v], pts.length) (ja_cons (je_tup (ds := [.int u, .int v]) (ja_cons (je_var (i := 1) rfl) (ja_cons (je_var (i := 2) rfl) ja_nil))) (ja_cons (je_many T (je_var (i := 0) rfl)) ja_nil)) (show 2 ≤ 1000 by decide))
  refine fin_go (o := badNos pts.length [u, v]) c1 (fun h => js_seq (js_asg (vs := [3, 4]) (je_tup (ds := [pD (pt pts u), pD (pt pts v)]) (ja_cons (je_ixT (pf _ rfl) (je_var (i := 1) rfl) (at_pt (no2 h).1)) (ja_cons (je_ixT (pf _ rfl) (je_var (i := 2) rfl) (at_pt (no2 h).2)) ja_nil))) (jg_tup (jgs_cons jg_name (jgs_cons jg_name jgs_nil))))
    (js_ret (je_lc (W' := fun _ _ _ _ => False) (List.range pts.length) (fun c : Nat => .tuple [.int (c : Int), pD (pt pts c)]) (fun c => decide (0 < area (pt pts u) (pt pts v) (pt pts c))) (fun c : Nat => .int (c : Int)) (ji_is (ji_enumT (pf _ rfl)) (nb_pts pts)) (by rw [List.length_range]; omega)
      fun c hc => ⟨_, jg_tup (ds := [.int (c : Int), pD (pt pts c)]) (jgs_cons jg_name (jgs_cons jg_name jgs_nil)), jt_test (je_gt (je_call (args := args_bare_area T) (dom := dom_bare_area) (out := out_bare_area T) (pt pts u, pt pts v, pt pts c) (ja_cons (je_var (i := 3) rfl) (ja_cons (je_var (i := 4) rfl) (ja_cons (je_var (i := 6) rfl) ja_nil))) ⟨near_pt hnear _, near_pt hnear _, near_pt hnear _⟩) je_int), fun _ => je_var (i := 5) rfl⟩))) fh al th
/-! ### only, without -/
def subP (pts : List (Int × Int)) (ns : List Int) : List (Int × Int) := ns.map (pt pts)
def onlyE (pts : List (Int × Int)) (ns : List Int) : Option Er := (if inR 3 ns.length pts.length then none else some ⟨.WrongCount, .int ns.length⟩ : Option Er).or ((badNos pts.length ns).or (floorE (subP pts ns)))
def args_Floor_only {K : PySem.W.Frag} {mg : Str → Option Value} (T : Tx K mg) : List (Int × Int) × Bool × List Int → List PV := fun a => [ob1 K T.a_Floor "points" (.tuple (a.1.map pD)), dv K (sq a.2.1 (a.2.2.map .int))]
def dom_Floor_only : List (Int × Int) × Bool × List Int → Prop := fun a => a.1.length ≤ 10 ∧ a.2.2.length ≤ 1000
def out_Floor_only {K : PySem.W.Frag} {mg : Str → Option Value} (T : Tx K mg) : List (Int × Int) × Bool × List Int → Out := fun a => outO K T.a_Floor (onlyE a.1 a.2.2) (.tuple ((subP a.1 a.2.2).map pD))
def retO (K : PySem.W.Frag) (C : Addr) (o : Option Er) (d : PyData) : Res := match o with
  | none => .rt (ob1 K C "points" d)
  | some e => .er e
theorem js_retO {K : PySem.W.Frag} {M : EC → Addr} {W : WX} {ps : Kn} {te : TE} {C : Addr} {o : Option Er} {d : PyData} (h : JE K M W te ps (outO K C o d)) : JS K M W (tRet te) ps (retO K C o d) := by
  cases o with
  | none => exact js_ret h
  | some e => exact js_ret_er h
theorem js_thenO {K : PySem.W.Frag} {M : EC → Addr} {W : WX} {ts tu : TS} {ps : Kn} {C : Addr} {o o2 : Option Er} {d : PyData} (h : JS K M W ts ps (ends ps (o.map Out.er))) (h2 : o = none → JS K M W tu ps (retO K C o2 d)) : JS K M W (tSeq ts tu) ps (retO K C (o.or o2) d) := by
  cases o with
  | none => exact js_seq h (h2 rfl)
  | some e => exact js_er h
theorem fin_retO {K : PySem.W.Frag} {C : Addr} {d : PyData} : ∀ o : Option Er, Fin K (retO K C o d) (outO K C o d)
  | none => rfl
  | some _ => rfl
theorem badNos_no {n : Int} {ns : List Int} (h : badNos n ns = none) : ∀ x ∈ ns, isNo x n = true := fun x hx => by
  obtain ⟨k, hk, rfl⟩ := List.getElem_of_mem hx
  have := List.findSome?_eq_none_iff.mp h k (List.mem_range.mpr hk)
  unfold badNo at this
  rw [List.getElem?_eq_getElem hk] at this
  dsimp only at this
  cases h1 : isNo ns[k] n with
  | true => rfl
  | false => rw [h1] at this; cases this
theorem ji_seqQ {K : PySem.W.Frag} {M : EC → Addr} {W : WX} {ps : Kn} {te : TE} {b : Bool} {ds : List PyData} (h : JD K M W te ps (sq b ds)) : JI K M W (iSeqQ K te) ps ds := by
  cases b with
  | true => exact fun σ F H R fh S k => .inl (ji_list h σ F H R fh S k)
  | false => exact fun σ F H R fh S k => .inr (ji_tup h σ F H R fh S k)
theorem ok_Floor_only {P : Program} {w : World} {K : PySem.W.Frag} {mg : Str → Option Value} {base : Heap} (T : Tx K mg) : FnOk P w K mg base (L2.CX P w) 7 T.a_Floor_only T.fd_Floor_only ["self", "numbers"] (Prm K T.M (args_Floor_only T) dom_Floor_only (out_Floor_only T)) := by
  refine T.F_Floor_only.okX sc_Floor_only (fun vs H Q E h => by obtain ⟨a, F, _, al, _⟩ := h; exact al.length) (fun cdv A outer s H vs Q E hr h => ?_)
  have tk : Takes (cxOf (L2.CX P w) P w K mg base N_Floor_only "Floor.only" (defScope s_Floor_only) T.a_Floor_only cdv A outer s H E) (fun cls d _ H => E cls d H) := takes_of rfl rfl rfl rfl
  obtain ⟨a, F, fh, al, hd, th⟩ := h
  refine ⟨_, (pss_cons (ps_expr (pe_callS (ok_check_count T) (hr.mono (by decide)) (by rfl) T.g_check_count T.F_check_count.kp (b_check_count T) (fun σ => passAt tk σ) (pa_cons (pv 1) (pa_cons (ClX.pe_cval (pe_glob (v := .ref T.a_Floor) (by rfl) T.g_Floor rfl)) (pa_cons (pe_callB call_len_seq (by rfl) T.z_len PySem.boot_len (pa_cons (pe_fld (pv 0) rfl) pa_nil)) pa_nil)))))
      (pss_cons (ps_expr (pe_callS (ok_check_numbers T) (hr.mono (by decide)) (by rfl) T.g_check_numbers T.F_check_numbers.kp (b_check_numbers T) (fun σ => passAt tk σ) (pa_cons (pv 1) (pa_cons (pe_callB call_len_seq (by rfl) T.z_len PySem.boot_len (pa_cons (pe_fld (pv 0) rfl) pa_nil)) pa_nil))))
      (pss_one (ps_ret (pe_makeS T.M_Floor (ok_Floor___init__ T) (hr.mono (by decide)) (by rfl) T.g_Floor (b_Floor___init__ T) (fun σ => passAt tk σ) (pa_cons (pe_lc (own := [("number", 2)]) (g := (gName 2)) (tt := tYes) (te := (tOp (rIxT K) (tFld K (tVar 0) "points") (tVar 2))) rfl sc_Floor_only.nd (pi_seqQ (pv 1)) (blkOk_by (N := N_Floor_only) (sc := defScope s_Floor_only) (own := [("number", 2)]) (by decide +kernel)) (fun _ _ _ _ _ => (pg_name (i := 2) sc_Floor_only.nd rfl (by first | exact Or.inl rfl | exact Or.inr rfl))) (fun _ _ _ _ _ => by exact pts_nil) (fun _ _ _ _ _ => by exact (pe_ix ix_tup (pe_fld (pv 0) rfl) (pv 2) (fun _ _ => rfl)))) pa_nil)))))), ?_⟩
  obtain ⟨pts, sb, ns⟩ := a
  obtain ⟨hl, hn⟩ := hd
  simp only at hl hn
  let W0 : WX := fun cls d _ H => E cls d H
  let ps0 : Kn := entry N_Floor_only (args_Floor_only T (pts, sb, ns))
  have hsq : JD K T.M W0 (tVar 1) ps0 (sq sb (ns.map .int)) := je_var (i := 1) rfl
  have hob : JV K T.M W0 (tVar 0) ps0 (ob1 K T.a_Floor "points" (.tuple (pts.map pD))) := je_var (i := 0) rfl
  have c1 := je_call (K := K) (M := T.M) (W := W0) (ps := ps0) (args := args_check_count T) (dom := dom_check_count) (out := out_check_count T) (sb, ns.map .int, 3, pts.length) (ja_cons hsq (ja_cons (je_cval je_x T.cr_Floor T.cv_Floor_LEAST fun _ => .int _) (ja_cons (je_many T hob) ja_nil))) trivial
  have e1 : out_check_count T (sb, ns.map .int, 3, pts.length) = outE K (if inR 3 ns.length pts.length then none else some ⟨.WrongCount, .int ns.length⟩) := by
    unfold out_check_count
    dsimp only
    rw [List.length_map]
    cases inR 3 ns.length pts.length <;> rfl
  rw [e1] at c1
  have c2 := je_call (K := K) (M := T.M) (W := W0) (ps := ps0) (args := args_check_numbers T) (dom := dom_check_numbers) (out := out_check_numbers T) (sb, ns, pts.length) (ja_cons hsq (ja_cons (je_many T hob) ja_nil)) hn
  refine fin_ok (r := retO K T.a_Floor (onlyE pts ns) (.tuple ((subP pts ns).map pD))) (js_thenO (js_out c1) fun _ => js_thenO (js_out c2) fun h2 => js_retO (mk_floor T (ja_cons ?_ ja_nil))) (fin_retO _) fh al th
  unfold subP
  rw [List.map_map]
  refine je_is (je_lc (W' := fun _ _ _ _ => False) ns .int (fun _ => true) (fun x => pD (pt pts x)) (ji_seqQ hsq) (by omega) fun x hx => ⟨_, jg_name, jt_yes, fun _ => je_ixT (je_pts T (je_var (i := 0) rfl)) (je_var (i := 2) rfl) (at_pt (badNos_no h2 x hx))⟩) ?_
  rw [List.filter_eq_self.mpr fun _ _ => rfl]
  rfl
def withoutE (pts : List (Int × Int)) (k : Int) : Option Er := (if isNo k pts.length then none else some ⟨.NoPoint, .int k⟩ : Option Er).or (onlyE pts (oth pts.length k))
def args_Floor_without {K : PySem.W.Frag} {mg : Str → Option Value} (T : Tx K mg) : List (Int × Int) × Int → List PV := fun a => [ob1 K T.a_Floor "points" (.tuple (a.1.map pD)), dv K (.int a.2)]
def dom_Floor_without : List (Int × Int) × Int → Prop := fun a => a.1.length ≤ 10
def out_Floor_without {K : PySem.W.Frag} {mg : Str → Option Value} (T : Tx K mg) : List (Int × Int) × Int → Out := fun a => outO K T.a_Floor (withoutE a.1 a.2) (.tuple ((subP a.1 (oth a.1.length a.2)).map pD))
end K12

namespace K12
open PySem PySem.Spec PyProof.Rows L2 Evl EB
/-! ### points -/
def atN (xs : List Int) (k : Nat) : Int := xs.getD k 0
theorem at_N {xs : List Int} {k : Nat} (h : k < xs.length) : atI (xs.map PyData.int) (k : Int) = some (.int (atN xs k)) := by
  refine atI_nat ?_
  rw [List.getElem?_map, List.getElem?_eq_getElem h]
  unfold atN
  simp [h]
def acr : List Int := [0, 61, 17, 35, 52, 8, 44, 27, 70, 13]
def upr : List Int := [0, 7, 58, 23, 41, 31, 12, 66, 29, 47]
def px (ns : List Int) (w : Bool) (k : Nat) : Int := cond w ((cell ns (1 + k) + atN acr k * 10007) % 2000001 - 1000000) (atN acr k - 30 + cell ns (1 + k) % 97)
def py (ns : List Int) (w : Bool) (k : Nat) : Int := cond w ((cell ns (1 + k) / 2000001 + atN upr k * 20011) % 2000001 - 1000000) (atN upr k - 30 + cell ns (1 + k) / 97 % 97)
def ptsL (ns : List Int) (n : Nat) (w : Bool) : List (Int × Int) := (List.range n).map fun k => (px ns w k, py ns w k)
def small (p : Int × Int) : Prop := (-1000000 ≤ p.1 ∧ p.1 ≤ 1000000) ∧ (-1000000 ≤ p.2 ∧ p.2 ≤ 1000000)
theorem acr_b : ∀ k : Nat, k < 10 → (0 ≤ atN acr k ∧ atN acr k ≤ 100) ∧ (0 ≤ atN upr k ∧ atN upr k ≤ 100) := by decide
theorem small_pts {ns : List Int} {n : Nat} {w : Bool} (hn : n ≤ 10) : ∀ p ∈ ptsL ns n w, small p := fun p hp => by
  obtain ⟨k, hk, rfl⟩ := List.mem_map.mp hp
  have h := acr_b k (by have := List.mem_range.mp hk; omega)
  unfold small px py
  cases w <;> simp only [cond_true, cond_false] <;> omega
theorem ptsL_succ (ns : List Int) (n : Nat) (w : Bool) : (ptsL ns (n + 1) w).map pD = (ptsL ns n w).map pD ++ [pD (px ns w n, py ns w n)] := by
  unfold ptsL
  rw [List.range_succ, List.map_append, List.map_append]
  rfl
def args__law_drawn {K : PySem.W.Frag} {mg : Str → Option Value} (T : Tx K mg) : List Int × Nat × Bool → List PV := fun a => [dv K (.list (intsD a.1)), dv K (.int a.2.1), dv K (.bool a.2.2)]
def dom__law_drawn : List Int × Nat × Bool → Prop := fun a => a.2.1 ≤ 10
def out__law_drawn {K : PySem.W.Frag} {mg : Str → Option Value} (T : Tx K mg) : List Int × Nat × Bool → Out := fun a => .ok (dv K (.list ((ptsL a.1 a.2.1 a.2.2).map pD)))
theorem mul_c {a b : Int} (h : -2 ^ 64 < b ∧ b < 2 ^ 64) : CMul a b := .inr h
theorem ok__law_drawn {P : Program} {w : World} {K : PySem.W.Frag} {mg : Str → Option Value} {base : Heap} (T : Tx K mg) : FnOk P w K mg base (L2.CX P w) 2 T.a__law_drawn T.fd__law_drawn ["cells", "many", "wide"] (Prm K T.M (args__law_drawn T) dom__law_drawn (out__law_drawn T)) := by
  refine T.F__law_drawn.okX sc__law_drawn (fun vs H Q E h => by obtain ⟨a, F, _, al, _⟩ := h; exact al.length) (fun cdv A outer s H vs Q E hr h => ?_)
  have tk : Takes (cxOf (L2.CX P w) P w K mg base N__law_drawn "_law_drawn" (defScope s__law_drawn) T.a__law_drawn cdv A outer s H E) (fun cls d _ H => E cls d H) := takes_of rfl rfl rfl rfl
  obtain ⟨a, F, fh, al, hd, th⟩ := h
  refine ⟨_, (pss_cons (ps_set (i := 3) sc__law_drawn.nd rfl (by first | exact Or.inl rfl | exact Or.inr rfl) (pe_tup (pa_cons pe_int (pa_cons pe_int (pa_cons pe_int (pa_cons pe_int (pa_cons pe_int (pa_cons pe_int (pa_cons pe_int (pa_cons pe_int (pa_cons pe_int (pa_cons pe_int pa_nil))))))))))))
      (pss_cons (ps_set (i := 4) sc__law_drawn.nd rfl (by first | exact Or.inl rfl | exact Or.inr rfl) (pe_tup (pa_cons pe_int (pa_cons pe_int (pa_cons pe_int (pa_cons pe_int (pa_cons pe_int (pa_cons pe_int (pa_cons pe_int (pa_cons pe_int (pa_cons pe_int (pa_cons pe_int pa_nil))))))))))))
      (pss_cons (ps_set (i := 5) sc__law_drawn.nd rfl (by first | exact Or.inl rfl | exact Or.inr rfl) (pe_lst pa_nil))
      (pss_cons (ps_for (passes_of rfl) rfl (pi_range1 (by rfl) T.z_range (pa_cons (pv 1) pa_nil)) (pg_name (i := 6) sc__law_drawn.nd rfl (by first | exact Or.inl rfl | exact Or.inr rfl)) (pss_cons (ps_set (i := 7) sc__law_drawn.nd rfl (by first | exact Or.inl rfl | exact Or.inr rfl) (pe_callS (ok__law_cell T) (hr.mono (by decide)) (by rfl) T.g__law_cell T.F__law_cell.kp (b__law_cell T) (fun σ => passAt tk σ) (pa_cons (pv 0) (pa_cons (pe_op op_add pe_int (pv 6)) pa_nil))))
      (pss_cons (ps_set (i := 8) sc__law_drawn.nd rfl (by first | exact Or.inl rfl | exact Or.inr rfl) (pe_op op_add (pe_op op_sub (pe_ix ix_tup (pv 3) (pv 6) (fun _ _ => rfl)) pe_int) (pe_op op_mod (pe_callTy call_int1 (by rfl) T.z_int PyProof.Rows.boot_int (pa_cons (pv 7) pa_nil)) pe_int)))
      (pss_cons (ps_set (i := 9) sc__law_drawn.nd rfl (by first | exact Or.inl rfl | exact Or.inr rfl) (pe_op op_add (pe_op op_sub (pe_ix ix_tup (pv 4) (pv 6) (fun _ _ => rfl)) pe_int) (pe_op op_mod (pe_callTy call_int1 (by rfl) T.z_int PyProof.Rows.boot_int (pa_cons (pe_op op_fdiv (pv 7) pe_int) pa_nil)) pe_int)))
      (pss_cons (ps_if (pt_val (pv 2)) (pss_cons (ps_set (i := 8) sc__law_drawn.nd rfl (by first | exact Or.inl rfl | exact Or.inr rfl) (pe_op op_sub (pe_op op_mod (pe_callTy call_int1 (by rfl) T.z_int PyProof.Rows.boot_int (pa_cons (pe_op op_add (pv 7) (pe_op op_mul (pe_ix ix_tup (pv 3) (pv 6) (fun _ _ => rfl)) pe_int)) pa_nil)) pe_int) pe_int))
      (pss_one (ps_set (i := 9) sc__law_drawn.nd rfl (by first | exact Or.inl rfl | exact Or.inr rfl) (pe_op op_sub (pe_op op_mod (pe_callTy call_int1 (by rfl) T.z_int PyProof.Rows.boot_int (pa_cons (pe_op op_add (pe_op op_fdiv (pv 7) pe_int) (pe_op op_mul (pe_ix ix_tup (pv 4) (pv 6) (fun _ _ => rfl)) pe_int)) pa_nil)) pe_int) pe_int)))) pss_nil)
      (pss_one (ps_expr (pe_bm PySem.F.plainAttrs_list PySem.F.slot_list_append PySem.F.type_list_append mt_append (pv 5) (pa_cons (pe_tup (pa_cons (pv 8) (pa_cons (pv 9) pa_nil))) pa_nil)))))))))
      (pss_one (ps_ret (pv 5))))))), ?_⟩
  obtain ⟨ns, n, w⟩ := a
  have hn : n ≤ 10 := hd
  let W0 : WX := fun cls d _ H => E cls d H
  refine fin_ok (r := .rt (dv K (.list ((ptsL ns n w).map pD)))) (js_seq (js_set (i := 3) (P := dv K (tupI acr)) (je_tup (ds := acr.map .int) (ja_cons je_int (ja_cons je_int (ja_cons je_int (ja_cons je_int (ja_cons je_int (ja_cons je_int (ja_cons je_int (ja_cons je_int (ja_cons je_int (ja_cons je_int ja_nil)))))))))) (by decide))) (js_seq (js_set (i := 4) (P := dv K (tupI upr)) (je_tup (ds := upr.map .int) (ja_cons je_int (ja_cons je_int (ja_cons je_int (ja_cons je_int (ja_cons je_int (ja_cons je_int (ja_cons je_int (ja_cons je_int (ja_cons je_int (ja_cons je_int ja_nil)))))))))) (by decide))) (jl_new fun D F1 H1 hD => ?_))) (by exact rfl) fh al th
  let psX : Kn := [some (dv K (.list (intsD ns))), some (dv K (.int n)), some (dv K (.bool w)), some (dv K (tupI acr)), some (dv K (tupI upr)), some (xv (.ref D)), none, none, none, none]
  refine jl_seq (qs := psX) (es := (ptsL ns n w).map pD) (jl_is (jl_for (vs := [6]) ((rg 0 n).map .int) (fun _ => psX) (fun j => (ptsL ns j w).map pD) (ji_is (ji_rng1 (n := n) (ja_cons (je_var (i := 1) rfl) ja_nil) ⟨by omega, by omega⟩) (by rw [Int.toNat_natCast])) rfl rfl fun j d hj => ?_) (by rw [List.length_map, rg_length])) (jl_ret rfl hD)
  obtain ⟨hj1, rfl⟩ := rg_int hj
  refine ⟨_, jg_name, ?_⟩
  have ha : JD K T.M W0 (tOp (rIxT K) (tVar 3) (tVar 6)) [some (dv K (.list (intsD ns))), some (dv K (.int n)), some (dv K (.bool w)), some (dv K (tupI acr)), some (dv K (tupI upr)), some (xv (.ref D)), some (dv K (.int j)), some (dv K (.int (cell ns (1 + j)))), none, none] (.int (atN acr j)) := je_ixT (ds := acr.map .int) (je_var (i := 3) rfl) (je_var (i := 6) rfl) (at_N (by show j < 10; omega))
  have hu : ∀ x y : Option PV, JD K T.M W0 (tOp (rIxT K) (tVar 4) (tVar 6)) [some (dv K (.list (intsD ns))), some (dv K (.int n)), some (dv K (.bool w)), some (dv K (tupI acr)), some (dv K (tupI upr)), some (xv (.ref D)), some (dv K (.int j)), some (dv K (.int (cell ns (1 + j)))), x, y] (.int (atN upr j)) := fun x y => je_ixT (ds := upr.map .int) (je_var (i := 4) rfl) (je_var (i := 6) rfl) (at_N (by show j < 10; omega))
  have ha2 : ∀ x y : Option PV, JD K T.M W0 (tOp (rIxT K) (tVar 3) (tVar 6)) [some (dv K (.list (intsD ns))), some (dv K (.int n)), some (dv K (.bool w)), some (dv K (tupI acr)), some (dv K (tupI upr)), some (xv (.ref D)), some (dv K (.int j)), some (dv K (.int (cell ns (1 + j)))), x, y] (.int (atN acr j)) := fun x y => je_ixT (ds := acr.map .int) (je_var (i := 3) rfl) (je_var (i := 6) rfl) (at_N (by show j < 10; omega))
  refine jl_seq (jl_js (js_set (P := dv K (.int (cell ns (1 + j)))) (je_call (args := args__law_cell T) (dom := dom__law_cell) (out := out__law_cell T) (ns, 1 + j) (ja_cons (je_var (i := 0) rfl) (ja_cons (je_is (je_add je_int (je_var (i := 6) rfl)) (show PyData.int _ = PyData.int _ by push_cast; rfl)) ja_nil)) trivial)))
    (jl_seq (jl_js (js_set (i := 8) (je_add (je_sub ha je_int) (je_mod (je_intI (je_var (i := 7) rfl)) je_int (by decide)))))
    (jl_seq (jl_js (js_set (i := 9) (je_add (je_sub (hu _ _) je_int) (je_mod (je_intI (je_div (je_var (i := 7) rfl) je_int ⟨by decide, by decide⟩)) je_int (by decide)))))
    (jl_seq (qs := [some (dv K (.list (intsD ns))), some (dv K (.int n)), some (dv K (.bool w)), some (dv K (tupI acr)), some (dv K (tupI upr)), some (xv (.ref D)), some (dv K (.int j)), some (dv K (.int (cell ns (1 + j)))), some (dv K (.int (px ns w j))), some (dv K (.int (py ns w j)))]) (jl_js (js_if (b := w) (jt_B (je_var (i := 2) rfl)) (fun h => ?_) (fun h => ?_)))
    (jl_weak (jl_is (jl_app rfl hD (ja_cons (je_tup (ds := [.int (px ns w j), .int (py ns w j)]) (ja_cons (je_var (i := 8) rfl) (ja_cons (je_var (i := 9) rfl) ja_nil))) ja_nil) ?_) (ptsL_succ ns j w).symm) ⟨.inr rfl, .inr rfl, .inr rfl, .inr rfl, .inr rfl, .inr rfl, .inl rfl, .inl rfl, .inl rfl, .inl rfl, trivial⟩))))
  · subst h
    exact js_seq (js_set (i := 8) (P := dv K (.int (px ns true j))) (je_sub (je_mod (je_intI (je_add (je_var (i := 7) rfl) (je_mul (ha2 _ _) je_int (mul_c (by decide))))) je_int (by decide)) je_int)) (js_set (i := 9) (P := dv K (.int (py ns true j))) (je_sub (je_mod (je_intI (je_add (je_div (je_var (i := 7) rfl) je_int ⟨by decide, by decide⟩) (je_mul (hu _ _) je_int (mul_c (by decide))))) je_int (by decide)) je_int))
  · subst h
    exact js_next
  · rw [List.length_map]
    unfold ptsL
    rw [List.length_map, List.length_range]
    omega
end K12

namespace K12
open PySem PySem.Spec PyProof.Rows L2 Evl EB
def args__law_whole {K : PySem.W.Frag} {mg : Str → Option Value} (T : Tx K mg) : Int → List PV := fun a => [dv K (.int a)]
def dom__law_whole : Int → Prop := fun _ => True
def out__law_whole {K : PySem.W.Frag} {mg : Str → Option Value} (T : Tx K mg) : Int → Out := fun _ => .ok (dv K (.bool true))
theorem ok__law_whole {P : Program} {w : World} {K : PySem.W.Frag} {mg : Str → Option Value} {base : Heap} (T : Tx K mg) : FnOk P w K mg base (L2.CX P w) 1 T.a__law_whole T.fd__law_whole ["thing"] (Prm K T.M (args__law_whole T) dom__law_whole (out__law_whole T)) := by
  refine T.F__law_whole.okX sc__law_whole (fun vs H Q E h => by obtain ⟨a, F, _, al, _⟩ := h; exact al.length) (fun cdv A outer s H vs Q E hr h => ?_)
  have tk : Takes (cxOf (L2.CX P w) P w K mg base N__law_whole "_law_whole" (defScope s__law_whole) T.a__law_whole cdv A outer s H E) (fun cls d _ H => E cls d H) := takes_of rfl rfl rfl rfl
  obtain ⟨a, F, fh, al, hd, th⟩ := h
  refine ⟨_, (pss_one (ps_ret (pe_and (pe_callB call_isi (by rfl) T.z_isinstance PyProof.Rows.boot_isinstance (pa_cons (pv 0) (pa_cons (pe_bltn (v := .ty "int") (by rfl) T.z_int PyProof.Rows.boot_int rfl) pa_nil))) (pe_one (pe_not (pe_callB call_isi (by rfl) T.z_isinstance PyProof.Rows.boot_isinstance (pa_cons (pv 0) (pa_cons (pe_bltn (v := .ty "bool") (by rfl) T.z_bool PyProof.Rows.boot_bool rfl) pa_nil)))))))), ?_⟩
  exact fin_ok (r := .rt (dv K (.bool true))) (js_ret (je_andV (a := true) (b := true) (je_isTyI (je_var (i := 0) rfl) (by decide)) (fun _ => je_notV (a := false) (je_isTyI (je_var (i := 0) rfl) (by decide))))) (by exact rfl) fh al th
/-! ### lines_and_lefts, line_row -/
def trip (pts : List (Int × Int)) : List (Int × Int × Nat) := (rg 0 pts.length).flatMap fun a => (oth pts.length a).map fun b => (a, b, (leftN pts a b).length)
def encT (t : Int × Int × Nat) : PyData := .tuple [.tuple [.int t.1, .int t.2.1], .int t.2.2]
theorem oth_mem {n : Nat} {k x : Int} (h : x ∈ oth n k) : 0 ≤ x ∧ x < n ∧ x ≠ k := by
  obtain ⟨h1, h2⟩ := List.mem_filter.mp h
  have := rg_mem h1
  refine ⟨by omega, by omega, fun z => ?_⟩
  simp [z] at h2
theorem badNos_two {n : Nat} {a b : Int} (ha : 0 ≤ a ∧ a < n) (hb : 0 ≤ b ∧ b < n) (h : b ≠ a) : badNos n [a, b] = none := by
  have na : isNo a n = true := by unfold isNo; simp [ha.1, ha.2]
  have nb : isNo b n = true := by unfold isNo; simp [hb.1, hb.2]
  unfold badNos
  show [0, 1].findSome? _ = none
  simp only [List.findSome?_cons, List.findSome?_nil]
  unfold badNo
  simp [na, nb, h]
def args_lines_and_lefts {K : PySem.W.Frag} {mg : Str → Option Value} (T : Tx K mg) : List (Int × Int) → List PV := args_Floor___len__ T
def dom_lines_and_lefts : List (Int × Int) → Prop := fun a => a.length ≤ 10 ∧ ∀ p ∈ a, near p
def out_lines_and_lefts {K : PySem.W.Frag} {mg : Str → Option Value} (T : Tx K mg) : List (Int × Int) → Out := fun a => .ok (dv K (.list ((trip a).map encT)))
theorem je_left {K : PySem.W.Frag} {mg : Str → Option Value} (T : Tx K mg) {W : WX} {ps : Kn} {te t1 t2 : TE} {pts : List (Int × Int)} {a b : Int} (h : JV K T.M W te ps (ob1 K T.a_Floor "points" (.tuple (pts.map pD)))) (h1 : JD K T.M W t1 ps (.int a)) (h2 : JD K T.M W t2 ps (.int b)) (hl : pts.length ≤ 10) (hn : ∀ p ∈ pts, near p) (hb : badNos pts.length [a, b] = none) :
    JD K T.M W (tMethW T.a_Floor "left_of" (Prm K T.M (args_Floor_left_of T) dom_Floor_left_of (out_Floor_left_of T)) (WE W) te (tCons t1 (tCons t2 tNil))) ps (leftD pts a b) := by
  have := je_meth (args := args_Floor_left_of T) (dom := dom_Floor_left_of) (out := out_Floor_left_of T) (C := T.a_Floor) (m := "left_of") (f := "points") (pts, a, b) h (by decide) _ (ja_cons h1 (ja_cons h2 ja_nil)) rfl ⟨hl, hn⟩
  have e : out_Floor_left_of T (pts, a, b) = .ok (dv K (leftD pts a b)) := by
    unfold out_Floor_left_of
    dsimp only
    rw [hb]
    rfl
  rw [e] at this
  exact this
theorem flatMap_le {α β : Type} (f : α → List β) (c : Nat) : ∀ xs : List α, (∀ x ∈ xs, (f x).length ≤ c) → (xs.flatMap f).length ≤ xs.length * c
  | [], _ => by simp
  | x :: r, h => by
    have h1 := h x List.mem_cons_self
    have h2 := flatMap_le f c r fun y hy => h y (List.mem_cons_of_mem _ hy)
    rw [List.flatMap_cons, List.length_append, List.length_cons, Nat.succ_mul]
    omega
theorem oth_len {n : Nat} {k : Int} : (oth n k).length ≤ n := by
  have := List.length_filter_le (fun i : Int => !decide (i = k)) (rg 0 n)
  rw [rg_length] at this
  exact this
theorem trip_len {pts : List (Int × Int)} (h : pts.length ≤ 10) : (trip pts).length ≤ 100 := by
  have := flatMap_le (fun a => (oth pts.length a).map fun b => (a, b, (leftN pts a b).length)) 10 (rg 0 pts.length) fun a _ => by
    rw [List.length_map]
    have := @oth_len pts.length a
    omega
  unfold trip
  rw [rg_length] at this
  omega
theorem trip_map {pts : List (Int × Int)} : (trip pts).map encT = (rg 0 pts.length).flatMap fun a => ((oth pts.length a).filter fun _ => true).map fun b => .tuple [.tuple [.int a, .int b], .int (leftN pts a b).length] := by
  unfold trip
  rw [List.map_flatMap]
  congr 1
  funext a
  rw [List.map_map, List.filter_eq_self.mpr fun _ _ => rfl]
  rfl
theorem ok_lines_and_lefts {P : Program} {w : World} {K : PySem.W.Frag} {mg : Str → Option Value} {base : Heap} (T : Tx K mg) : FnOk P w K mg base (L2.CX P w) 6 T.a_lines_and_lefts T.fd_lines_and_lefts ["floor"] (Prm K T.M (args_lines_and_lefts T) dom_lines_and_lefts (out_lines_and_lefts T)) := by
  refine T.F_lines_and_lefts.okX sc_lines_and_lefts (fun vs H Q E h => by obtain ⟨a, F, _, al, _⟩ := h; exact al.length) (fun cdv A outer s H vs Q E hr h => ?_)
  have tk : Takes (cxOf (L2.CX P w) P w K mg base N_lines_and_lefts "lines_and_lefts" (defScope s_lines_and_lefts) T.a_lines_and_lefts cdv A outer s H E) (fun cls d _ H => E cls d H) := takes_of rfl rfl rfl rfl
  obtain ⟨a, F, fh, al, hd, th⟩ := h
  refine ⟨_, (pss_cons (ps_set (i := 1) sc_lines_and_lefts.nd rfl (by first | exact Or.inl rfl | exact Or.inr rfl) (pe_callB (call_lenOwn (ok_Floor___len__ T) (hr.mono (by decide)) T.m_Floor___len__.1 T.m_Floor___len__.2 (b_Floor___len__ T) passF) (by rfl) T.z_len PySem.boot_len (pa_cons (pv 0) pa_nil)))
      (pss_one (ps_ret (pe_lc2 (own := [("a", 2), ("b", 3)]) (g := (gName 2)) (tt := tYes) (te := (tTup (tCons (tTup (tCons (tVar 2) (tCons (tVar 3) tNil))) (tCons (tCB (rLenS K) (tCons (tMethW T.a_Floor "left_of" (Prm K T.M (args_Floor_left_of T) dom_Floor_left_of (out_Floor_left_of T)) (WE fun _ _ _ _ => False) (tVar 0) (tCons (tVar 2) (tCons (tVar 3) tNil))) tNil)) tNil)))) (wi1 := (iList K (tCallS (Prm K T.M (args_others T) dom_others (out_others T)) (WE fun _ _ _ _ => False) (tCons (tVar 1) (tCons (tVar 2) tNil))))) (g1 := (gName 3)) (tt1 := tYes) (vs1 := [3]) rfl sc_lines_and_lefts.nd (pi_range1 (by rfl) T.z_range (pa_cons (pv 1) pa_nil)) (blkOk_by (N := N_lines_and_lefts) (sc := defScope s_lines_and_lefts) (own := [("a", 2), ("b", 3)]) (by decide +kernel)) (by decide) (fun _ _ _ _ _ => (pg_name (i := 2) sc_lines_and_lefts.nd rfl (by first | exact Or.inl rfl | exact Or.inr rfl))) (fun _ _ _ _ _ => by exact pts_nil) (fun _ _ _ _ _ => by exact (pi_list (pe_callS (ok_others T) (hr.mono (by decide)) (by rfl) T.g_others T.F_others.kp (b_others T) (fun σ => passAt takes0 σ) (pa_cons (pv 1) (pa_cons (pv 2) pa_nil))))) (fun _ _ _ _ _ => (pg_name (i := 3) sc_lines_and_lefts.nd rfl (by first | exact Or.inl rfl | exact Or.inr rfl))) (fun _ _ _ _ _ => pts_nil) (fun _ _ _ _ _ => by exact (pe_tup (pa_cons (pe_tup (pa_cons (pv 2) (pa_cons (pv 3) pa_nil))) (pa_cons (pe_callB call_len_seq (by rfl) T.z_len PySem.boot_len (pa_cons (pe_methW (pv 0) T.C_Floor T.m_Floor_left_of (ok_Floor_left_of T) (hr.mono (by decide)) (b_Floor_left_of T) (fun σ => passAt takes0 σ) (pa_cons (pv 2) (pa_cons (pv 3) pa_nil))) pa_nil)) pa_nil)))))))), ?_⟩
  obtain ⟨hl, hn⟩ := hd
  refine fin_ok (r := .rt (dv K (.list ((trip a).map encT)))) (js_seq (js_set (i := 1) (je_lenF T (je_var (i := 0) rfl) (by omega))) (js_ret ?_)) (by exact rfl) fh al th
  rw [trip_map]
  refine je_lc2 (W' := fun _ _ _ _ => False) (rg 0 a.length) (fun x => oth a.length x) .int .int (fun _ _ => true) (fun x y => .tuple [.tuple [.int x, .int y], .int (leftN a x y).length]) (ji_upto (je_var (i := 1) rfl) (by omega)) ?_ fun x hx => ?_
  · rw [← trip_map, List.length_map]
    have := trip_len hl
    omega
  · have hx2 := rg_mem hx
    refine ⟨_, jg_name, jt_yes, ji_list (je_call (args := args_others T) (dom := dom_others) (out := out_others T) (a.length, x) (ja_cons (je_var (i := 1) rfl) (ja_cons (je_var (i := 2) rfl) ja_nil)) (show a.length ≤ 1000 by omega)), fun y hy => ⟨_, jg_name, jt_yes, fun _ => ?_⟩⟩
    have hy2 := oth_mem hy
    refine je_tup (ds := [.tuple [.int x, .int y], .int (leftN a x y).length]) (ja_cons (je_tup (ds := [.int x, .int y]) (ja_cons (je_var (i := 2) rfl) (ja_cons (je_var (i := 3) rfl) ja_nil))) (ja_cons (je_is (je_lenL (ds := (leftN a x y).map fun c : Nat => .int (c : Int)) (je_left T (je_var (i := 0) rfl) (je_var (i := 2) rfl) (je_var (i := 3) rfl) hl hn (badNos_two ⟨by omega, by omega⟩ ⟨by omega, by omega⟩ hy2.2.2))) (by rw [List.length_map])) ja_nil))
theorem count_filter (l : List Int) (j : Int) : (l.filter fun x => decide (x = j)).length = l.count j := by
  rw [← List.countP_eq_length_filter]
  unfold List.count
  congr 1
def cnts (pts : List (Int × Int)) : List Int := (trip pts).map fun t => (t.2.2 : Int)
def rowP (pts : List (Int × Int)) : List PyData := (rg 0 (pts.length - 1)).map fun j => .int ((cnts pts).count j : Nat)
def args_tally {K : PySem.W.Frag} {mg : Str → Option Value} (T : Tx K mg) : List Int × Nat → List PV := fun a => [dv K (.list (a.1.map .int)), dv K (.int a.2)]
def dom_tally : List Int × Nat → Prop := fun a => a.1.length ≤ 80000 ∧ a.2 ≤ 1000
def out_tally : List Int × Nat → List PyData := fun a => (rg 0 a.2).map fun j => .int (a.1.count j : Nat)
theorem ok_tally {P : Program} {w : World} {K : PySem.W.Frag} {mg : Str → Option Value} {base : Heap} (T : Tx K mg) : FnOk P w K mg base (L2.CX P w) 1 T.a_tally T.fd_tally ["counts", "length"] (PrmN K (args_tally T) dom_tally out_tally) := by
  refine T.F_tally.okX sc_tally (fun vs H Q E h => by obtain ⟨a, F, _, al, _⟩ := h; exact al.length) (fun cdv A outer s H vs Q E hr h => ?_)
  have tk : Takes (cxOf (L2.CX P w) P w K mg base N_tally "tally" (defScope s_tally) T.a_tally cdv A outer s H E) (fun cls d _ H => E cls d H) := takes_of rfl rfl rfl rfl
  obtain ⟨a, F, fh, al, hd, th⟩ := h
  refine ⟨_, (pss_one (ps_ret (pe_lc (own := [("j", 3)]) (g := (gName 3)) (tt := tYes) (te := (tCB (rLenS K) (tCons (tLc (iList K (tVar 0)) (gName 2) (tTest (tOp rEq (tVar 2) (tVar 3))) (tVar 2) [2]) tNil))) rfl sc_tally.nd (pi_range1 (by rfl) T.z_range (pa_cons (pv 1) pa_nil)) (blkOk_by (N := N_tally) (sc := defScope s_tally) (own := [("j", 3)]) (by decide +kernel)) (fun _ _ _ _ _ => (pg_name (i := 3) sc_tally.nd rfl (by first | exact Or.inl rfl | exact Or.inr rfl))) (fun _ _ _ _ _ => by exact pts_nil) (fun _ _ _ _ _ => by exact (pe_callB call_len_seq (by rfl) T.z_len PySem.boot_len (pa_cons (pe_lc (own := [("entry", 2)]) (g := (gName 2)) (tt := (tTest (tOp rEq (tVar 2) (tVar 3)))) (te := (tVar 2)) rfl sc_tally.nd (pi_list (pv 0)) (by exact (show BlkOk N_tally (relS _ (defScope s_tally)) _ [("entry", 2)] from blkOk_by (by decide +kernel))) (fun _ _ _ _ _ => (pg_name (i := 2) sc_tally.nd rfl (by first | exact Or.inl rfl | exact Or.inr rfl))) (fun _ _ _ _ _ => by exact pts_one (pt_cmpR op_eq (pv 2) (pv 3) (nomark _))) (fun _ _ _ _ _ => by exact (pv 2))) pa_nil)))))), ?_⟩
  obtain ⟨xs, m⟩ := a
  obtain ⟨hl, hm⟩ := hd
  simp only at hl hm
  refine fin_new (jn_is (jn_lc (M := T.M) (W := fun cls d _ H => E cls d H) (W' := fun _ _ _ _ => False) (rg 0 m) .int (fun _ => true) (fun j => .int (xs.count j : Nat)) (ji_upto (n := m) (je_var (i := 1) rfl) (by omega)) (by rw [rg_length]; omega)
      fun j _ => ⟨_, jg_name, jt_yes, fun _ => je_is (je_lenL (je_lc (vs := [2]) (W' := fun _ _ _ _ => False) xs .int (fun x => decide (x = j)) .int (ji_list (je_var (i := 0) rfl)) (by omega) fun x _ => ⟨_, jg_name, jt_test (je_eqI (je_var (i := 2) rfl) (je_var (i := 3) rfl)), fun _ => je_var (i := 2) rfl⟩)) (by rw [List.length_map, count_filter])⟩) ?_) fh al th
  rw [List.filter_eq_self.mpr fun _ _ => rfl]
  rfl
def args_line_row {K : PySem.W.Frag} {mg : Str → Option Value} (T : Tx K mg) : List (Int × Int) → List PV := args_Floor___len__ T
def dom_line_row : List (Int × Int) → Prop := fun a => (a.length ≤ 10 ∧ ∀ p ∈ a, near p) ∧ 1 ≤ a.length
def out_line_row : List (Int × Int) → List PyData := rowP
theorem ok_line_row {P : Program} {w : World} {K : PySem.W.Frag} {mg : Str → Option Value} {base : Heap} (T : Tx K mg) : FnOk P w K mg base (L2.CX P w) 7 T.a_line_row T.fd_line_row ["floor"] (PrmN K (args_line_row T) dom_line_row out_line_row) := by
  refine T.F_line_row.okX sc_line_row (fun vs H Q E h => by obtain ⟨a, F, _, al, _⟩ := h; exact al.length) (fun cdv A outer s H vs Q E hr h => ?_)
  have tk : Takes (cxOf (L2.CX P w) P w K mg base N_line_row "line_row" (defScope s_line_row) T.a_line_row cdv A outer s H E) (fun cls d _ H => E cls d H) := takes_of rfl rfl rfl rfl
  obtain ⟨a, F, fh, al, hd, th⟩ := h
  refine ⟨_, (pss_one (ps_ret (pe_callS (ok_tally T) (hr.mono (by decide)) (by rfl) T.g_tally T.F_tally.kp (b_tally T) (fun σ => passAt tk σ) (pa_cons (pe_lc (own := [("line", 1), ("left", 2)]) (g := (gTup K 2 (gCons (gName 1) (gCons (gName 2) gNil)))) (tt := tYes) (te := (tVar 2)) rfl sc_line_row.nd (pi_list (pe_callS (ok_lines_and_lefts T) (hr.mono (by decide)) (by rfl) T.g_lines_and_lefts T.F_lines_and_lefts.kp (b_lines_and_lefts T) (fun σ => passAt tk σ) (pa_cons (pv 0) pa_nil))) (blkOk_by (N := N_line_row) (sc := defScope s_line_row) (own := [("line", 1), ("left", 2)]) (by decide +kernel)) (fun _ _ _ _ _ => (pg_tup rfl (pgs_cons (pg_name (i := 1) sc_line_row.nd rfl (by first | exact Or.inl rfl | exact Or.inr rfl)) (pgs_cons (pg_name (i := 2) sc_line_row.nd rfl (by first | exact Or.inl rfl | exact Or.inr rfl)) pgs_nil)))) (fun _ _ _ _ _ => by exact pts_nil) (fun _ _ _ _ _ => by exact (pv 2))) (pa_cons (pe_op op_sub (pe_callB (call_lenOwn (ok_Floor___len__ T) (hr.mono (by decide)) T.m_Floor___len__.1 T.m_Floor___len__.2 (b_Floor___len__ T) passF) (by rfl) T.z_len PySem.boot_len (pa_cons (pv 0) pa_nil)) pe_int) pa_nil))))), ?_⟩
  obtain ⟨⟨hl, hn⟩, h1⟩ := hd
  have lc : (cnts a).length ≤ 100 := by
    unfold cnts
    rw [List.length_map]
    exact trip_len hl
  refine fin_new (jn_call (M := T.M) (W := fun cls d _ H => E cls d H) (args := args_tally T) (dom := dom_tally) (out := out_tally) (cnts a, a.length - 1) (ja_cons (je_is (je_lc (W' := fun _ _ _ _ => False) (trip a) encT (fun _ => true) (fun t => .int (t.2.2 : Int)) (ji_list (je_call (args := args_lines_and_lefts T) (dom := dom_lines_and_lefts) (out := out_lines_and_lefts T) a (ja_cons (je_var (i := 0) rfl) ja_nil) ⟨hl, hn⟩)) (by have := trip_len hl; omega)
      fun t _ => ⟨_, jg_tup (ds := [.tuple [.int t.1, .int t.2.1], .int t.2.2]) (jgs_cons jg_name (jgs_cons jg_name jgs_nil)), jt_yes, fun _ => je_var (i := 2) rfl⟩) ?_) (ja_cons (je_is (je_sub (je_lenF T (je_var (i := 0) rfl) (by omega)) je_int) (by congr 1; omega)) ja_nil)) ⟨by dsimp only; omega, by dsimp only; omega⟩) fh al th
  rw [List.filter_eq_self.mpr fun _ _ => rfl]
  unfold cnts
  rw [List.map_map]
  rfl
end K12

namespace K12
open PySem PySem.Spec PyProof.Rows L2 Evl EB
/-! ### points in general position -/
theorem area_ppr (p r : Int × Int) : area p r p = 0 := by
  unfold area
  grind
theorem area_pqq (p q : Int × Int) : area p q q = 0 := by
  unfold area
  grind
theorem area_ppq (p q : Int × Int) : area p p q = 0 := by
  unfold area
  grind
theorem area_sw (p q r : Int × Int) : area q p r = -area p q r := by
  unfold area
  grind
theorem area_ro (p q r : Int × Int) : area q r p = area p q r := by
  unfold area
  grind
structure Gp (xs : List (Int × Int)) : Prop where
  nd : xs.Nodup
  ne : ∀ p q r, p ∈ xs → q ∈ xs → r ∈ xs → p ≠ q → r ≠ p → r ≠ q → area p q r ≠ 0
theorem mem_rg {lo x : Int} {m : Nat} (h1 : lo ≤ x) (h2 : x < lo + m) : x ∈ rg lo m := by
  unfold rg
  exact List.mem_map.mpr ⟨(x - lo).toNat, List.mem_range.mpr (by omega), by omega⟩
theorem pt_nat {pts : List (Int × Int)} {i : Nat} (h : i < pts.length) : pt pts (i : Int) = pts[i] := by
  unfold pt
  simp [h]
theorem pt_mem {pts : List (Int × Int)} {i : Int} (h : 0 ≤ i ∧ i < pts.length) : pt pts i ∈ pts := by
  obtain ⟨j, rfl⟩ := Int.eq_ofNat_of_zero_le h.1
  rw [pt_nat (by omega)]
  exact List.getElem_mem _
/-- what no line through three says of the numbers -/
theorem asc_of {pts : List (Int × Int)} (h : onLine pts = none) (hl : pts.length ≤ 10) : ∀ i j k : Nat, i < j → j < k → (hk : k < pts.length) → area (pt pts i) (pt pts j) (pt pts k) ≠ 0 := fun i j k h1 h2 h3 z => by
  rw [onLine_eq hl] at h
  have a1 := List.findSome?_eq_none_iff.mp h i (mem_rg (by omega) (by omega))
  have a2 := List.findSome?_eq_none_iff.mp a1 j (mem_rg (by omega) (by omega))
  have a3 := List.findSome?_eq_none_iff.mp a2 k (mem_rg (by omega) (by omega))
  unfold lineOf at a3
  dsimp only at a3
  rw [if_pos z] at a3
  cases a3
theorem asc_to {pts : List (Int × Int)} (hl : pts.length ≤ 10) (h : ∀ i j k : Nat, i < j → j < k → k < pts.length → area (pt pts i) (pt pts j) (pt pts k) ≠ 0) : onLine pts = none := by
  rw [onLine_eq hl]
  refine List.findSome?_eq_none_iff.mpr fun a ha => List.findSome?_eq_none_iff.mpr fun b hb => List.findSome?_eq_none_iff.mpr fun c hc => ?_
  have ha2 := rg_mem ha
  have hb2 := rg_mem hb
  have hc2 := rg_mem hc
  obtain ⟨i, rfl⟩ := Int.eq_ofNat_of_zero_le (by omega : (0:Int) ≤ a)
  obtain ⟨j, rfl⟩ := Int.eq_ofNat_of_zero_le (by omega : (0:Int) ≤ b)
  obtain ⟨k, rfl⟩ := Int.eq_ofNat_of_zero_le (by omega : (0:Int) ≤ c)
  unfold lineOf
  dsimp only
  exact if_neg (h i j k (by omega) (by omega) (by omega))
/-- any three numbers that are different -/
theorem any_of {pts : List (Int × Int)} (h : ∀ i j k : Nat, i < j → j < k → k < pts.length → area (pt pts i) (pt pts j) (pt pts k) ≠ 0) : ∀ i j k : Nat, i < pts.length → j < pts.length → k < pts.length → i ≠ j → k ≠ i → k ≠ j → area (pt pts i) (pt pts j) (pt pts k) ≠ 0 := fun i j k hi hj hk h1 h2 h3 => by
  have sw := area_sw
  have ro := area_ro
  rcases Nat.lt_or_gt_of_ne h1 with a | a <;> rcases Nat.lt_or_gt_of_ne h2 with b | b <;> rcases Nat.lt_or_gt_of_ne h3 with c | c
  · rw [← ro]; rw [← ro]; exact h k i j b a hj
  · omega
  · have := h i k j (by omega) (by omega) hj
    have e := sw (pt pts i) (pt pts k) (pt pts j)
    have e2 := ro (pt pts i) (pt pts j) (pt pts k)
    have e3 := ro (pt pts j) (pt pts k) (pt pts i)
    omega
  · exact h i j k a c hk
  · have := h k j i c a hi
    have e := sw (pt pts k) (pt pts j) (pt pts i)
    have e2 := ro (pt pts i) (pt pts j) (pt pts k)
    have e3 := ro (pt pts j) (pt pts k) (pt pts i)
    omega
  · have := h j k i (by omega) (by omega) hi
    have e2 := ro (pt pts i) (pt pts j) (pt pts k)
    omega
  · omega
  · have := h j i k a (by omega) hk
    have e := sw (pt pts j) (pt pts i) (pt pts k)
    omega
theorem third {n i j : Nat} (h : 3 ≤ n) : ∃ k, k < n ∧ k ≠ i ∧ k ≠ j := by
  by_cases h0 : i = 0 ∨ j = 0
  · by_cases h1 : i = 1 ∨ j = 1
    · exact ⟨2, by omega, by omega, by omega⟩
    · exact ⟨1, by omega, by omega, by omega⟩
  · exact ⟨0, by omega, by omega, by omega⟩
theorem gp_of {pts : List (Int × Int)} (h : onLine pts = none) (hl : pts.length ≤ 10) (h3 : 3 ≤ pts.length) : Gp pts := by
  have key := any_of (asc_of h hl)
  have inj : ∀ i j : Nat, (hi : i < pts.length) → (hj : j < pts.length) → i ≠ j → pts[i] ≠ pts[j] := fun i j hi hj ne e => by
    obtain ⟨k, hk, k1, k2⟩ := third (n := pts.length) (i := i) (j := j) h3
    have := key i j k hi hj hk ne k1 k2
    rw [pt_nat hi, pt_nat hj, e, area_ppq] at this
    exact this rfl
  refine ⟨List.nodup_iff_pairwise_ne.mpr (List.pairwise_iff_getElem.mpr fun i j hi hj hij => inj i j hi hj (by omega)), fun p q r hp hq hr h1 h2 h4 => ?_⟩
  obtain ⟨i, hi, rfl⟩ := List.getElem_of_mem hp
  obtain ⟨j, hj, rfl⟩ := List.getElem_of_mem hq
  obtain ⟨k, hk, rfl⟩ := List.getElem_of_mem hr
  have := key i j k hi hj hk (fun z => h1 (by subst z; rfl)) (fun z => h2 (by subst z; rfl)) (fun z => h4 (by subst z; rfl))
  rw [pt_nat hi, pt_nat hj, pt_nat hk] at this
  exact this
theorem gp_to {pts : List (Int × Int)} (g : Gp pts) (hl : pts.length ≤ 10) : onLine pts = none := by
  refine asc_to hl fun i j k h1 h2 h3 => ?_
  have inj : ∀ i j : Nat, (hi : i < pts.length) → (hj : j < pts.length) → i < j → pts[i] ≠ pts[j] := fun i j hi hj ij => List.pairwise_iff_getElem.mp (List.nodup_iff_pairwise_ne.mp g.nd) i j hi hj ij
  rw [pt_nat (by omega), pt_nat (by omega), pt_nat h3]
  exact g.ne _ _ _ (List.getElem_mem _) (List.getElem_mem _) (List.getElem_mem _) (inj i j (by omega) (by omega) h1) (fun z => inj i k (by omega) h3 (by omega) z.symm) (fun z => inj j k (by omega) h3 h2 z.symm)
def gA (p q r : Int × Int) : Bool := decide (0 < area p q r)
theorem Gp.ori {pts : List (Int × Int)} (g : Gp pts) : DC.Ori pts gA where
  nd := g.nd
  l1 := fun p q => by unfold gA; rw [area_ppr]; rfl
  l2 := fun p q => by unfold gA; rw [area_pqq]; rfl
  op := fun p q r hp hq hr h1 h2 h3 => by
    have := g.ne p q r hp hq hr h1 h2 h3
    unfold gA
    rw [area_sw p q r]
    by_cases h : 0 < area p q r
    · have : ¬ 0 < -area p q r := by omega
      rw [decide_eq_true h, decide_eq_false this]
      rfl
    · have : 0 < -area p q r := by omega
      rw [decide_eq_false h, decide_eq_true this]
      rfl
/-! ### the row as sums -/
theorem S_pts (pts : List (Int × Int)) (f : Int × Int → Nat) : DC.S pts f = DC.S (List.range pts.length) fun i => f (pt pts (i : Int)) := by
  unfold DC.S
  congr 1
  apply List.ext_getElem?
  intro i
  rw [List.getElem?_map, List.getElem?_map]
  by_cases h : i < pts.length
  · rw [List.getElem?_eq_getElem h, List.getElem?_range h, Option.map_some, Option.map_some, pt_nat h]
  · rw [List.getElem?_eq_none (by omega), List.getElem?_eq_none (by rw [List.length_range]; omega)]
    rfl
theorem S_map {α β : Type} (xs : List α) (h : α → β) (f : β → Nat) : DC.S (xs.map h) f = DC.S xs fun x => f (h x) := by
  unfold DC.S
  rw [List.map_map]
  rfl
theorem S_flat {α β : Type} (xs : List α) (h : α → List β) (f : β → Nat) : DC.S (xs.flatMap h) f = DC.S xs fun x => DC.S (h x) f := by
  induction xs with
  | nil => rfl
  | cons a r ih => rw [List.flatMap_cons, DC.S_app, DC.S_cons, ih]
theorem S_rg (n : Nat) (f : Int → Nat) : DC.S (rg 0 n) f = DC.S (List.range n) fun i => f (i : Int) := by
  unfold rg
  rw [S_map]
  exact DC.S_congr fun i _ => by rw [Int.zero_add]
theorem count_S (xs : List Int) (j : Int) : xs.count j = DC.S xs fun x => if x = j then 1 else 0 := by
  induction xs with
  | nil => rfl
  | cons a r ih =>
    rw [List.count_cons, DC.S_cons, ih]
    by_cases h : a = j <;> simp [h]
    omega
theorem leftN_lf (pts : List (Int × Int)) (a b : Int) : (leftN pts a b).length = DC.lf pts gA (pt pts a) (pt pts b) := by
  unfold leftN DC.lf
  rw [DC.S_len, S_pts]
  rfl
def rowN (pts : List (Int × Int)) (n : Nat) : List PyData := (List.range n).map fun j => .int (DC.T pts gA j : Nat)
theorem rowP_eq {pts : List (Int × Int)} (nd : pts.Nodup) : rowP pts = rowN pts (pts.length - 1) := by
  unfold rowP rowN rg
  rw [List.map_map]
  refine List.map_congr_left fun j _ => ?_
  show PyData.int _ = PyData.int _
  congr 2
  show (cnts pts).count (0 + (j : Int)) = _
  rw [Int.zero_add, count_S]
  unfold cnts trip DC.T
  rw [S_map, S_flat, S_rg, S_pts]
  refine DC.S_congr fun a ha => ?_
  rw [S_map, S_pts]
  unfold oth
  rw [DC.S_filter, S_rg]
  refine DC.S_congr fun b hb => ?_
  have ha2 := List.mem_range.mp ha
  have hb2 := List.mem_range.mp hb
  rw [leftN_lf]
  by_cases h : a = b
  · subst h
    simp
  · have e : pt pts (a : Int) ≠ pt pts (b : Int) := by
      rw [pt_nat ha2, pt_nat hb2]
      intro z
      rcases Nat.lt_or_gt_of_ne h with y | y
      · exact List.pairwise_iff_getElem.mp (List.nodup_iff_pairwise_ne.mp nd) a b ha2 hb2 y z
      · exact List.pairwise_iff_getElem.mp (List.nodup_iff_pairwise_ne.mp nd) b a hb2 ha2 y z.symm
    have h2 : ¬ b = a := fun z => h z.symm
    simp only [e, h2, ne_eq, not_false_eq_true, true_and, Int.natCast_inj, decide_false, Bool.not_false, if_true]
end K12

namespace K12
open PySem PySem.Spec PyProof.Rows L2 Evl EB PySem.W
/-! ### choose, is_within, inner pairs -/
def args_choose {K : PySem.W.Frag} {mg : Str → Option Value} (T : Tx K mg) : Int × Int → List PV := fun a => [dv K (.int a.1), dv K (.int a.2)]
def dom_choose : Int × Int → Prop := fun a => (0 ≤ a.1 ∧ a.1 ≤ 60) ∧ 0 ≤ a.2 ∧ a.2 ≤ 60
def out_choose {K : PySem.W.Frag} {mg : Str → Option Value} (T : Tx K mg) : Int × Int → Out := fun a => .ok (dv K (.int (mcComb a.1 a.2)))
theorem inR_of {lo v hi : Int} (h1 : lo ≤ v) (h2 : v ≤ hi) : inR lo v hi = true := by
  unfold inR
  simp [h1, h2]
theorem je_range {K : PySem.W.Frag} {mg : Str → Option Value} (T : Tx K mg) {W : WX} {ps : Kn} {t1 t2 t3 : TE} {v lo hi : Int} (h1 : JD K T.M W t1 ps (.int v)) (h2 : JD K T.M W t2 ps (.int lo)) (h3 : JD K T.M W t3 ps (.int hi)) (hr : inR lo v hi = true) : JD K T.M W (tCallS (Prm K T.M (args_check_range T) dom_check_range (out_check_range T)) (WE W) (tCons t1 (tCons t2 (tCons t3 tNil)))) ps .none := by
  have := je_call (args := args_check_range T) (dom := dom_check_range) (out := out_check_range T) (v, lo, hi) (ja_cons h1 (ja_cons h2 (ja_cons h3 ja_nil))) trivial
  have e : out_check_range T (v, lo, hi) = .ok (dv K .none) := by
    unfold out_check_range
    dsimp only
    rw [hr]
  rw [e] at this
  exact this
theorem ok_choose {P : Program} {w : World} {K : PySem.W.Frag} {mg : Str → Option Value} {base : Heap} (T : Tx K mg) : FnOk P w K mg base (L2.CX P w) 4 T.a_choose T.fd_choose ["n", "k"] (Prm K T.M (args_choose T) dom_choose (out_choose T)) := by
  refine T.F_choose.okX sc_choose (fun vs H Q E h => by obtain ⟨a, F, _, al, _⟩ := h; exact al.length) (fun cdv A outer s H vs Q E hr h => ?_)
  have tk : Takes (cxOf (L2.CX P w) P w K mg base N_choose "choose" (defScope s_choose) T.a_choose cdv A outer s H E) (fun cls d _ H => E cls d H) := takes_of rfl rfl rfl rfl
  obtain ⟨a, F, fh, al, hd, th⟩ := h
  refine ⟨_, (pss_cons (ps_expr (pe_callS (ok_check_range T) (hr.mono (by decide)) (by rfl) T.g_check_range T.F_check_range.kp (b_check_range T) (fun σ => passAt tk σ) (pa_cons (pv 0) (pa_cons pe_int (pa_cons pe_int pa_nil)))))
      (pss_cons (ps_expr (pe_callS (ok_check_range T) (hr.mono (by decide)) (by rfl) T.g_check_range T.F_check_range.kp (b_check_range T) (fun σ => passAt tk σ) (pa_cons (pv 1) (pa_cons (pe_un un_neg pe_int) (pa_cons pe_int pa_nil)))))
      (pss_one (ps_ret (pe_ifExp (pt_cmpR op_ge (pv 1) pe_int (nomark _)) (pe_callG (id := "math.comb") cr_comb (by rfl) T.g_comb (pa_cons (pv 0) (pa_cons (pv 1) pa_nil))) pe_int))))), ?_⟩
  obtain ⟨n, k⟩ := a
  obtain ⟨⟨h1, h2⟩, h3, h4⟩ := hd
  simp only at h1 h2 h3 h4
  exact fin_ok (r := .rt (dv K (.int (mcComb n k)))) (js_seq (js_drop (je_range T (je_var (i := 0) rfl) je_int je_int (inR_of h1 h2))) (js_seq (js_drop (je_range T (je_var (i := 1) rfl) (je_neg je_int) je_int (inR_of (by omega) h4)))
    (js_ret (je_if (b := true) (jt_is (jt_test (je_ge (je_var (i := 1) rfl) je_int)) (decide_eq_true h3)) (fun _ => je_comb (je_var (i := 0) rfl) (je_var (i := 1) rfl) h1 h3 (by omega) (.inl (by omega))) (fun z => Bool.noConfusion z))))) (by exact rfl) fh al th
abbrev Pt := Int × Int
def args_is_within {K : PySem.W.Frag} {mg : Str → Option Value} (T : Tx K mg) : Pt × Pt × Pt × Pt → List PV := fun a => [dv K (pD a.1), dv K (pD a.2.1), dv K (pD a.2.2.1), dv K (pD a.2.2.2)]
def dom_is_within : Pt × Pt × Pt × Pt → Prop := fun a => near a.1 ∧ near a.2.1 ∧ near a.2.2.1 ∧ near a.2.2.2
def out_is_within {K : PySem.W.Frag} {mg : Str → Option Value} (T : Tx K mg) : Pt × Pt × Pt × Pt → Out := fun a => .ok (dv K (.bool (FV.wi gA a.1 a.2.1 a.2.2.1 a.2.2.2)))
theorem je_bare {K : PySem.W.Frag} {mg : Str → Option Value} (T : Tx K mg) {W : WX} {ps : Kn} {t1 t2 t3 : TE} {p q r : Pt} (h1 : JD K T.M W t1 ps (pD p)) (h2 : JD K T.M W t2 ps (pD q)) (h3 : JD K T.M W t3 ps (pD r)) (n1 : near p) (n2 : near q) (n3 : near r) : JD K T.M W (tOp (rI0 fun i j => .bl (decide (j < i))) (tCallS (Prm K T.M (args_bare_area T) dom_bare_area (out_bare_area T)) (WE W) (tCons t1 (tCons t2 (tCons t3 tNil)))) (tC (.int 0))) ps (.bool (gA p q r)) :=
  je_gt (je_call (args := args_bare_area T) (dom := dom_bare_area) (out := out_bare_area T) (p, q, r) (ja_cons h1 (ja_cons h2 (ja_cons h3 ja_nil))) ⟨n1, n2, n3⟩) je_int
theorem je_lawA {K : PySem.W.Frag} {mg : Str → Option Value} (T : Tx K mg) {W : WX} {ps : Kn} {t1 t2 t3 : TE} {p q r : Pt} (h1 : JD K T.M W t1 ps (pD p)) (h2 : JD K T.M W t2 ps (pD q)) (h3 : JD K T.M W t3 ps (pD r)) (n1 : near p) (n2 : near q) (n3 : near r) : JD K T.M W (tOp (rI0 fun i j => .bl (decide (j < i))) (tCallS (Prm K T.M (args__law_area T) dom__law_area (out__law_area T)) (WE W) (tCons t1 (tCons t2 (tCons t3 tNil)))) (tC (.int 0))) ps (.bool (gA p q r)) :=
  je_gt (je_call (args := args__law_area T) (dom := dom__law_area) (out := out__law_area T) (p, q, r) (ja_cons h1 (ja_cons h2 (ja_cons h3 ja_nil))) ⟨n1, n2, n3⟩) je_int
theorem ok_is_within {P : Program} {w : World} {K : PySem.W.Frag} {mg : Str → Option Value} {base : Heap} (T : Tx K mg) : FnOk P w K mg base (L2.CX P w) 2 T.a_is_within T.fd_is_within ["p", "q", "r", "s"] (Prm K T.M (args_is_within T) dom_is_within (out_is_within T)) := by
  refine T.F_is_within.okX sc_is_within (fun vs H Q E h => by obtain ⟨a, F, _, al, _⟩ := h; exact al.length) (fun cdv A outer s H vs Q E hr h => ?_)
  have tk : Takes (cxOf (L2.CX P w) P w K mg base N_is_within "is_within" (defScope s_is_within) T.a_is_within cdv A outer s H E) (fun cls d _ H => E cls d H) := takes_of rfl rfl rfl rfl
  obtain ⟨a, F, fh, al, hd, th⟩ := h
  refine ⟨_, (pss_one (ps_ret (pe_chain op_eq op_eq (pe_cmpR op_gt (pe_callS (ok_bare_area T) (hr.mono (by decide)) (by rfl) T.g_bare_area T.F_bare_area.kp (b_bare_area T) (fun σ => passAt tk σ) (pa_cons (pv 0) (pa_cons (pv 1) (pa_cons (pv 3) pa_nil)))) pe_int (nomark _)) (pe_cmpR op_gt (pe_callS (ok_bare_area T) (hr.mono (by decide)) (by rfl) T.g_bare_area T.F_bare_area.kp (b_bare_area T) (fun σ => passAt tk σ) (pa_cons (pv 1) (pa_cons (pv 2) (pa_cons (pv 3) pa_nil)))) pe_int (nomark _)) (pe_cmpR op_gt (pe_callS (ok_bare_area T) (hr.mono (by decide)) (by rfl) T.g_bare_area T.F_bare_area.kp (b_bare_area T) (fun σ => passAt tk σ) (pa_cons (pv 2) (pa_cons (pv 0) (pa_cons (pv 3) pa_nil)))) pe_int (nomark _))))), ?_⟩
  obtain ⟨p, q, r, s0⟩ := a
  obtain ⟨h1, h2, h3, h4⟩ := hd
  exact fin_ok (r := .rt (dv K (.bool (FV.wi gA p q r s0)))) (js_ret (je_chainB (je_bare T (je_var (i := 0) rfl) (je_var (i := 1) rfl) (je_var (i := 3) rfl) h1 h2 h4) (je_bare T (je_var (i := 1) rfl) (je_var (i := 2) rfl) (je_var (i := 3) rfl) h2 h3 h4) (je_bare T (je_var (i := 2) rfl) (je_var (i := 0) rfl) (je_var (i := 3) rfl) h3 h1 h4))) (by exact rfl) fh al th
def arT (pts : List Pt) (a b c d : Int) : Bool := FV.wi gA (pt pts a) (pt pts b) (pt pts c) (pt pts d)
def args_is_around {K : PySem.W.Frag} {mg : Str → Option Value} (T : Tx K mg) : List Pt × Int × Int × Int × Int → List PV := fun a => [ob1 K T.a_Floor "points" (.tuple (a.1.map pD)), dv K (tupI [a.2.1, a.2.2.1, a.2.2.2.1]), dv K (.int a.2.2.2.2)]
def dom_is_around : List Pt × Int × Int × Int × Int → Prop := fun a => (∀ p ∈ a.1, near p) ∧ isNo a.2.1 a.1.length = true ∧ isNo a.2.2.1 a.1.length = true ∧ isNo a.2.2.2.1 a.1.length = true ∧ isNo a.2.2.2.2 a.1.length = true
def out_is_around {K : PySem.W.Frag} {mg : Str → Option Value} (T : Tx K mg) : List Pt × Int × Int × Int × Int → Out := fun a => .ok (dv K (.bool (arT a.1 a.2.1 a.2.2.1 a.2.2.2.1 a.2.2.2.2)))
theorem ok_is_around {P : Program} {w : World} {K : PySem.W.Frag} {mg : Str → Option Value} {base : Heap} (T : Tx K mg) : FnOk P w K mg base (L2.CX P w) 3 T.a_is_around T.fd_is_around ["floor", "three", "number"] (Prm K T.M (args_is_around T) dom_is_around (out_is_around T)) := by
  refine T.F_is_around.okX sc_is_around (fun vs H Q E h => by obtain ⟨a, F, _, al, _⟩ := h; exact al.length) (fun cdv A outer s H vs Q E hr h => ?_)
  have tk : Takes (cxOf (L2.CX P w) P w K mg base N_is_around "is_around" (defScope s_is_around) T.a_is_around cdv A outer s H E) (fun cls d _ H => E cls d H) := takes_of rfl rfl rfl rfl
  obtain ⟨a, F, fh, al, hd, th⟩ := h
  refine ⟨_, (pss_cons (ps_asg (pv 1) (pg_tup rfl (pgs_cons (pg_name (i := 3) sc_is_around.nd rfl (by first | exact Or.inl rfl | exact Or.inr rfl)) (pgs_cons (pg_name (i := 4) sc_is_around.nd rfl (by first | exact Or.inl rfl | exact Or.inr rfl)) (pgs_cons (pg_name (i := 5) sc_is_around.nd rfl (by first | exact Or.inl rfl | exact Or.inr rfl)) pgs_nil)))))
      (pss_one (ps_ret (pe_callS (ok_is_within T) (hr.mono (by decide)) (by rfl) T.g_is_within T.F_is_within.kp (b_is_within T) (fun σ => passAt tk σ) (pa_cons (pe_ix ix_tup (pe_fld (pv 0) rfl) (pv 3) (fun _ _ => rfl)) (pa_cons (pe_ix ix_tup (pe_fld (pv 0) rfl) (pv 4) (fun _ _ => rfl)) (pa_cons (pe_ix ix_tup (pe_fld (pv 0) rfl) (pv 5) (fun _ _ => rfl)) (pa_cons (pe_ix ix_tup (pe_fld (pv 0) rfl) (pv 2) (fun _ _ => rfl)) pa_nil)))))))), ?_⟩
  obtain ⟨pts, u, v, w0, d⟩ := a
  obtain ⟨hn, h1, h2, h3, h4⟩ := hd
  have pf : ∀ ps : Kn, ps[0]? = some (some (ob1 K T.a_Floor "points" (.tuple (pts.map pD)))) → JD K T.M (fun cls d _ H => E cls d H) (tFld K (tVar 0) "points") ps (.tuple (pts.map pD)) := fun ps h => je_pts T (je_var (i := 0) h)
  exact fin_ok (r := .rt (dv K (.bool (arT pts u v w0 d)))) (js_seq (js_asg (vs := [3, 4, 5]) (je_var (i := 1) rfl) (jg_tup (ds := [.int u, .int v, .int w0]) (jgs_cons jg_name (jgs_cons jg_name (jgs_cons jg_name jgs_nil)))))
    (js_ret (je_call (args := args_is_within T) (dom := dom_is_within) (out := out_is_within T) (pt pts u, pt pts v, pt pts w0, pt pts d) (ja_cons (je_ixT (pf _ rfl) (je_var (i := 3) rfl) (at_pt h1)) (ja_cons (je_ixT (pf _ rfl) (je_var (i := 4) rfl) (at_pt h2)) (ja_cons (je_ixT (pf _ rfl) (je_var (i := 5) rfl) (at_pt h3)) (ja_cons (je_ixT (pf _ rfl) (je_var (i := 2) rfl) (at_pt h4)) ja_nil)))) ⟨near_pt hn _, near_pt hn _, near_pt hn _, near_pt hn _⟩))) (by exact rfl) fh al th
/-- d is within the triangle t, a number of its own -/
def inT (pts : List Pt) (t : List Int) (d : Int) : Bool := !t.contains d && match t with
  | [a, b, c] => arT pts a b c d
  | _ => false
def prsI (pts : List Pt) : List (List Int × Int) := (subsL pts.length 3).flatMap fun t => ((rg 0 pts.length).filter (inT pts t)).map fun d => (t, d)
def encP (x : List Int × Int) : PyData := .tuple [tupI x.1, .int x.2]
theorem prsI_map (pts : List Pt) : (prsI pts).map encP = (subsL pts.length 3).flatMap fun t => ((rg 0 pts.length).filter (inT pts t)).map fun d => encP (t, d) := by
  unfold prsI
  rw [List.map_flatMap]
  congr 1
  funext t
  rw [List.map_map]
  rfl
theorem prsI_len {pts : List Pt} (h : pts.length ≤ 10) : (prsI pts).length ≤ 3000 := by
  have h1 := flatMap_le (fun t => ((rg 0 pts.length).filter (inT pts t)).map fun d => (t, d)) 10 (subsL pts.length 3) fun t _ => by
    rw [List.length_map]
    have := List.length_filter_le (inT pts t) (rg 0 pts.length)
    rw [rg_length] at this
    omega
  have h2 := (subs_small pts.length (by omega) 3 (by omega)).1
  unfold prsI
  omega
def args_inner_pairs {K : PySem.W.Frag} {mg : Str → Option Value} (T : Tx K mg) : List Pt → List PV := args_Floor___len__ T
def dom_inner_pairs : List Pt → Prop := fun a => a.length ≤ 10 ∧ ∀ p ∈ a, near p
def out_inner_pairs {K : PySem.W.Frag} {mg : Str → Option Value} (T : Tx K mg) : List Pt → Out := fun a => .ok (dv K (.list ((prsI a).map encP)))
theorem ok_inner_pairs {P : Program} {w : World} {K : PySem.W.Frag} {mg : Str → Option Value} {base : Heap} (T : Tx K mg) : FnOk P w K mg base (L2.CX P w) 4 T.a_inner_pairs T.fd_inner_pairs ["floor"] (Prm K T.M (args_inner_pairs T) dom_inner_pairs (out_inner_pairs T)) := by
  refine T.F_inner_pairs.okX sc_inner_pairs (fun vs H Q E h => by obtain ⟨a, F, _, al, _⟩ := h; exact al.length) (fun cdv A outer s H vs Q E hr h => ?_)
  have tk : Takes (cxOf (L2.CX P w) P w K mg base N_inner_pairs "inner_pairs" (defScope s_inner_pairs) T.a_inner_pairs cdv A outer s H E) (fun cls d _ H => E cls d H) := takes_of rfl rfl rfl rfl
  obtain ⟨a, F, fh, al, hd, th⟩ := h
  refine ⟨_, (pss_cons (ps_set (i := 1) sc_inner_pairs.nd rfl (by first | exact Or.inl rfl | exact Or.inr rfl) (pe_callB (call_lenOwn (ok_Floor___len__ T) (hr.mono (by decide)) T.m_Floor___len__.1 T.m_Floor___len__.2 (b_Floor___len__ T) passF) (by rfl) T.z_len PySem.boot_len (pa_cons (pv 0) pa_nil)))
      (pss_one (ps_ret (pe_lc2 (own := [("three", 2), ("number", 3)]) (g := (gName 2)) (tt := tYes) (te := (tTup (tCons (tVar 2) (tCons (tVar 3) tNil)))) (wi1 := (iRng1 (tCons (tVar 1) tNil))) (g1 := (gName 3)) (tt1 := (tAnd (tTest (tOp (rIn K true) (tVar 3) (tVar 2))) (tB (tCallS (Prm K T.M (args_is_around T) dom_is_around (out_is_around T)) (WE fun _ _ _ _ => False) (tCons (tVar 0) (tCons (tVar 2) (tCons (tVar 3) tNil))))))) (vs1 := [3]) rfl sc_inner_pairs.nd (pi_list (pe_callS (ok_subset_list T) (hr.mono (by decide)) (by rfl) T.g_subset_list T.F_subset_list.kp (b_subset_list T) (fun σ => passAt tk σ) (pa_cons (pv 1) (pa_cons pe_int pa_nil)))) (blkOk_by (N := N_inner_pairs) (sc := defScope s_inner_pairs) (own := [("three", 2), ("number", 3)]) (by decide +kernel)) (by decide) (fun _ _ _ _ _ => (pg_name (i := 2) sc_inner_pairs.nd rfl (by first | exact Or.inl rfl | exact Or.inr rfl))) (fun _ _ _ _ _ => by exact pts_nil) (fun _ _ _ _ _ => by exact (pi_range1 (by rfl) T.z_range (pa_cons (pv 1) pa_nil))) (fun _ _ _ _ _ => (pg_name (i := 3) sc_inner_pairs.nd rfl (by first | exact Or.inl rfl | exact Or.inr rfl))) (fun _ _ _ _ _ => pts_one (PW.pt (pw_and (pt_cmpR op_notIn_seq (pv 3) (pv 2) (by rfl)) (pw_and1 (pt_val (pe_callS (ok_is_around T) (hr.mono (by decide)) (by rfl) T.g_is_around T.F_is_around.kp (b_is_around T) (fun σ => passAt takes0 σ) (pa_cons (pv 0) (pa_cons (pv 2) (pa_cons (pv 3) pa_nil))))))))) (fun _ _ _ _ _ => by exact (pe_tup (pa_cons (pv 2) (pa_cons (pv 3) pa_nil)))))))), ?_⟩
  obtain ⟨hl, hn⟩ := hd
  refine fin_ok (r := .rt (dv K (.list ((prsI a).map encP)))) (js_seq (js_set (i := 1) (je_lenF T (je_var (i := 0) rfl) (by omega))) (js_ret ?_)) (by exact rfl) fh al th
  rw [prsI_map]
  refine je_lc2 (W' := fun _ _ _ _ => False) (subsL a.length 3) (fun _ => rg 0 a.length) tupI .int (inT a) (fun t d => encP (t, d)) (ji_list (je_call (args := args_subset_list T) (dom := dom_subset_list) (out := out_subset_list T) (a.length, 3) (ja_cons (je_var (i := 1) rfl) (ja_cons je_int ja_nil)) ⟨hl, (show (3:Nat) ≤ 4 by decide)⟩)) ?_ fun t ht => ?_
  · rw [← prsI_map, List.length_map]
    have := prsI_len hl
    omega
  · have hx := List.all_eq_true.mp (subs3 a.length (by omega)) _ ht
    match t, hx with
    | [u, v, z], hx =>
      simp only [Bool.and_eq_true] at hx
      obtain ⟨⟨h1, h2⟩, h3⟩ := hx
      refine ⟨_, jg_name, jt_yes, ji_upto (je_var (i := 1) rfl) (by omega), fun d hd => ⟨_, jg_name, ?_, fun _ => je_tup (ds := [tupI [u, v, z], .int d]) (ja_cons (je_var (i := 2) rfl) (ja_cons (je_var (i := 3) rfl) ja_nil))⟩⟩
      have hd2 := rg_mem hd
      have h4 : isNo d a.length = true := by unfold isNo; simp; omega
      exact jt_and (jt_test (je_notInT (ns := [u, v, z]) (je_var (i := 3) rfl) (je_var (i := 2) rfl))) fun _ => jt_B (je_call (args := args_is_around T) (dom := dom_is_around) (out := out_is_around T) (a, u, v, z, d) (ja_cons (je_var (i := 0) rfl) (ja_cons (je_var (i := 2) rfl) (ja_cons (je_var (i := 3) rfl) ja_nil))) ⟨hn, h1, h2, h3, h4⟩)
def cfI (pts : List Pt) : Int := mcComb pts.length 4 - (prsI pts).length
def args_convex_fours {K : PySem.W.Frag} {mg : Str → Option Value} (T : Tx K mg) : List Pt → List PV := args_Floor___len__ T
def dom_convex_fours : List Pt → Prop := dom_inner_pairs
def out_convex_fours {K : PySem.W.Frag} {mg : Str → Option Value} (T : Tx K mg) : List Pt → Out := fun a => .ok (dv K (.int (cfI a)))
theorem ok_convex_fours {P : Program} {w : World} {K : PySem.W.Frag} {mg : Str → Option Value} {base : Heap} (T : Tx K mg) : FnOk P w K mg base (L2.CX P w) 5 T.a_convex_fours T.fd_convex_fours ["floor"] (Prm K T.M (args_convex_fours T) dom_convex_fours (out_convex_fours T)) := by
  refine T.F_convex_fours.okX sc_convex_fours (fun vs H Q E h => by obtain ⟨a, F, _, al, _⟩ := h; exact al.length) (fun cdv A outer s H vs Q E hr h => ?_)
  have tk : Takes (cxOf (L2.CX P w) P w K mg base N_convex_fours "convex_fours" (defScope s_convex_fours) T.a_convex_fours cdv A outer s H E) (fun cls d _ H => E cls d H) := takes_of rfl rfl rfl rfl
  obtain ⟨a, F, fh, al, hd, th⟩ := h
  refine ⟨_, (pss_one (ps_ret (pe_op op_sub (pe_callS (ok_choose T) (hr.mono (by decide)) (by rfl) T.g_choose T.F_choose.kp (b_choose T) (fun σ => passAt tk σ) (pa_cons (pe_callB (call_lenOwn (ok_Floor___len__ T) (hr.mono (by decide)) T.m_Floor___len__.1 T.m_Floor___len__.2 (b_Floor___len__ T) passF) (by rfl) T.z_len PySem.boot_len (pa_cons (pv 0) pa_nil)) (pa_cons pe_int pa_nil))) (pe_callB call_len_seq (by rfl) T.z_len PySem.boot_len (pa_cons (pe_callS (ok_inner_pairs T) (hr.mono (by decide)) (by rfl) T.g_inner_pairs T.F_inner_pairs.kp (b_inner_pairs T) (fun σ => passAt tk σ) (pa_cons (pv 0) pa_nil)) pa_nil))))), ?_⟩
  obtain ⟨hl, hn⟩ := hd
  exact fin_ok (r := .rt (dv K (.int (cfI a)))) (js_ret (je_sub (je_call (args := args_choose T) (dom := dom_choose) (out := out_choose T) (a.length, 4) (ja_cons (je_lenF T (je_var (i := 0) rfl) (by omega)) (ja_cons je_int ja_nil)) ⟨⟨by dsimp only; omega, by dsimp only; omega⟩, show (0 : Int) ≤ 4 by decide, show (4 : Int) ≤ 60 by decide⟩)
    (je_is (je_lenL (je_call (args := args_inner_pairs T) (dom := dom_inner_pairs) (out := out_inner_pairs T) a (ja_cons (je_var (i := 0) rfl) ja_nil) ⟨hl, hn⟩)) (by rw [List.length_map])))) (by exact rfl) fh al th
/-! ### the law's own pairs -/
def args__law_is_within {K : PySem.W.Frag} {mg : Str → Option Value} (T : Tx K mg) : List Pt × Int × Int × Int × Int → List PV := fun a => [dv K (.list (a.1.map pD)), dv K (.int a.2.2.2.2), dv K (tupI [a.2.1, a.2.2.1, a.2.2.2.1])]
def dom__law_is_within : List Pt × Int × Int × Int × Int → Prop := dom_is_around
def out__law_is_within {K : PySem.W.Frag} {mg : Str → Option Value} (T : Tx K mg) : List Pt × Int × Int × Int × Int → Out := out_is_around T
theorem ok__law_is_within {P : Program} {w : World} {K : PySem.W.Frag} {mg : Str → Option Value} {base : Heap} (T : Tx K mg) : FnOk P w K mg base (L2.CX P w) 2 T.a__law_is_within T.fd__law_is_within ["points", "number", "three"] (Prm K T.M (args__law_is_within T) dom__law_is_within (out__law_is_within T)) := by
  refine T.F__law_is_within.okX sc__law_is_within (fun vs H Q E h => by obtain ⟨a, F, _, al, _⟩ := h; exact al.length) (fun cdv A outer s H vs Q E hr h => ?_)
  have tk : Takes (cxOf (L2.CX P w) P w K mg base N__law_is_within "_law_is_within" (defScope s__law_is_within) T.a__law_is_within cdv A outer s H E) (fun cls d _ H => E cls d H) := takes_of rfl rfl rfl rfl
  obtain ⟨a, F, fh, al, hd, th⟩ := h
  refine ⟨_, (pss_cons (ps_set (i := 3) sc__law_is_within.nd rfl (by first | exact Or.inl rfl | exact Or.inr rfl) (pe_ix ix_list (pv 0) (pv 1) (fun _ _ => rfl)))
      (pss_cons (ps_asg (pe_lc (own := [("k", 7)]) (g := (gName 7)) (tt := tYes) (te := (tOp (rIxL K) (tVar 0) (tVar 7))) rfl sc__law_is_within.nd (pi_tup (pv 2)) (blkOk_by (N := N__law_is_within) (sc := defScope s__law_is_within) (own := [("k", 7)]) (by decide +kernel)) (fun _ _ _ _ _ => (pg_name (i := 7) sc__law_is_within.nd rfl (by first | exact Or.inl rfl | exact Or.inr rfl))) (fun _ _ _ _ _ => by exact pts_nil) (fun _ _ _ _ _ => by exact (pe_ix ix_list (pv 0) (pv 7) (fun _ _ => rfl)))) (pg_unl rfl (pgs_cons (pg_name (i := 4) sc__law_is_within.nd rfl (by first | exact Or.inl rfl | exact Or.inr rfl)) (pgs_cons (pg_name (i := 5) sc__law_is_within.nd rfl (by first | exact Or.inl rfl | exact Or.inr rfl)) (pgs_cons (pg_name (i := 6) sc__law_is_within.nd rfl (by first | exact Or.inl rfl | exact Or.inr rfl)) pgs_nil)))))
      (pss_cons (ps_set (i := 8) sc__law_is_within.nd rfl (by first | exact Or.inl rfl | exact Or.inr rfl) (pe_cmpR op_gt (pe_callS (ok__law_area T) (hr.mono (by decide)) (by rfl) T.g__law_area T.F__law_area.kp (b__law_area T) (fun σ => passAt tk σ) (pa_cons (pv 4) (pa_cons (pv 5) (pa_cons (pv 3) pa_nil)))) pe_int (nomark _)))
      (pss_cons (ps_set (i := 9) sc__law_is_within.nd rfl (by first | exact Or.inl rfl | exact Or.inr rfl) (pe_cmpR op_gt (pe_callS (ok__law_area T) (hr.mono (by decide)) (by rfl) T.g__law_area T.F__law_area.kp (b__law_area T) (fun σ => passAt tk σ) (pa_cons (pv 5) (pa_cons (pv 6) (pa_cons (pv 3) pa_nil)))) pe_int (nomark _)))
      (pss_cons (ps_set (i := 10) sc__law_is_within.nd rfl (by first | exact Or.inl rfl | exact Or.inr rfl) (pe_cmpR op_gt (pe_callS (ok__law_area T) (hr.mono (by decide)) (by rfl) T.g__law_area T.F__law_area.kp (b__law_area T) (fun σ => passAt tk σ) (pa_cons (pv 6) (pa_cons (pv 4) (pa_cons (pv 3) pa_nil)))) pe_int (nomark _)))
      (pss_one (ps_ret (pe_and (pe_cmpR op_eq (pv 8) (pv 9) (nomark _)) (pe_one (pe_cmpR op_eq (pv 9) (pv 10) (nomark _))))))))))), ?_⟩
  obtain ⟨pts, u, v, w0, d⟩ := a
  obtain ⟨hn, h1, h2, h3, h4⟩ := hd
  refine fin_ok (r := .rt (dv K (.bool (arT pts u v w0 d)))) (js_seq (js_set (i := 3) (je_ixL (je_var (i := 0) rfl) (je_var (i := 1) rfl) (at_pt h4)))
    (js_seq (js_asg (vs := [4, 5, 6]) (P := dv K (.list [pD (pt pts u), pD (pt pts v), pD (pt pts w0)])) (je_is (je_lc (W' := fun _ _ _ _ => False) [u, v, w0] .int (fun _ => true) (fun k => pD (pt pts k)) (ji_tup (je_var (i := 2) rfl)) (show 3 ≤ 90000 by decide) fun k hk => ⟨_, jg_name, jt_yes, fun _ => je_ixL (je_var (i := 0) rfl) (je_var (i := 7) rfl) (at_pt ?_)⟩) rfl) (jg_unl (ds := [pD (pt pts u), pD (pt pts v), pD (pt pts w0)]) (jgs_cons jg_name (jgs_cons jg_name (jgs_cons jg_name jgs_nil)))))
    (js_seq (js_set (i := 8) (je_lawA T (je_var (i := 4) rfl) (je_var (i := 5) rfl) (je_var (i := 3) rfl) (near_pt hn _) (near_pt hn _) (near_pt hn _)))
    (js_seq (js_set (i := 9) (je_lawA T (je_var (i := 5) rfl) (je_var (i := 6) rfl) (je_var (i := 3) rfl) (near_pt hn _) (near_pt hn _) (near_pt hn _)))
    (js_seq (js_set (i := 10) (je_lawA T (je_var (i := 6) rfl) (je_var (i := 4) rfl) (je_var (i := 3) rfl) (near_pt hn _) (near_pt hn _) (near_pt hn _)))
    (js_ret (je_andV (je_eqB (je_var (i := 8) rfl) (je_var (i := 9) rfl)) fun _ => je_eqB (je_var (i := 9) rfl) (je_var (i := 10) rfl)))))))) (by exact rfl) fh al th
  simp only [List.mem_cons, List.not_mem_nil, or_false] at hk
  rcases hk with rfl | rfl | rfl
  · exact h1
  · exact h2
  · exact h3
end K12

namespace K12
open PySem PySem.Spec PyProof.Rows L2 Evl EB PySem.W
/-- a loop that adds to a list of one's own -/
theorem jl_grow {K : PySem.W.Frag} {M : EC → Addr} {W : WX} {D : Addr} {F1 H1 : Hp} {ps : Kn} {ds : List PyData} {vs : List Nat} {wi : TI} {g : TG} {tb : TS} {α : Type} (B : Nat) (xs : List α) (enc : α → PyData) (out : α → List PyData) (hi : JI K M W wi ps (xs.map enc))
    (hs : ∀ x ∈ xs, ∀ es : List PyData, es.length + (out x).length ≤ B → ∃ qs, JG vs g ps (dv K (enc x)) qs ∧ JL K M W D F1 H1 tb qs es (.nx ps (es ++ out x))) (hB : ds.length + (xs.flatMap out).length ≤ B) : JL K M W D F1 H1 (tFor wi g tb) ps ds (.nx ps (ds ++ xs.flatMap out)) := by
  refine jl_is (jl_for (vs := vs) (xs.map enc) (fun _ => ps) (fun i => ds ++ (xs.take i).flatMap out) hi rfl (by simp) fun i d hd => ?_) (by rw [List.length_map, List.take_length])
  have hlt : i < xs.length := by
    have := (List.getElem?_eq_some_iff.mp hd).1
    rw [List.length_map] at this
    exact this
  rw [List.getElem?_map, List.getElem?_eq_getElem hlt] at hd
  cases hd
  have e := flatMap_take_succ (f := out) (List.getElem?_eq_getElem hlt)
  have le := flatMap_take_le out xs (i + 1)
  rw [e, List.length_append] at le
  obtain ⟨qs, hg, hb⟩ := hs xs[i] (List.getElem_mem hlt) (ds ++ (xs.take i).flatMap out) (by rw [List.length_append]; omega)
  refine ⟨qs, hg, jl_is hb ?_⟩
  rw [e, List.append_assoc]
theorem flat_if {α β : Type} (p : α → Bool) (f : α → β) : ∀ l : List α, (l.flatMap fun x => if p x = true then [f x] else []) = (l.filter p).map f
  | [] => rfl
  | a :: r => by
    rw [List.flatMap_cons, flat_if p f r, List.filter_cons]
    cases p a <;> rfl
theorem prs_nest {pts : List Pt} (h : pts.length ≤ 10) : (prsI pts).map encP = (rg 0 pts.length).flatMap fun a => (beh a pts.length).flatMap fun b => (beh b pts.length).flatMap fun c => (rg 0 pts.length).flatMap fun d => if inT pts [a, b, c] d = true then [encP ([a, b, c], d)] else [] := by
  rw [prsI_map, subs3_eq _ (by omega), List.flatMap_assoc]
  congr 1
  funext a
  rw [List.flatMap_assoc]
  congr 1
  funext b
  rw [List.flatMap_map]
  congr 1
  funext c
  rw [flat_if]
def args__law_pairs {K : PySem.W.Frag} {mg : Str → Option Value} (T : Tx K mg) : List Pt → List PV := fun a => [dv K (.list (a.map pD))]
def dom__law_pairs : List Pt → Prop := dom_inner_pairs
def out__law_pairs {K : PySem.W.Frag} {mg : Str → Option Value} (T : Tx K mg) : List Pt → Out := out_inner_pairs T
theorem ok__law_pairs {P : Program} {w : World} {K : PySem.W.Frag} {mg : Str → Option Value} {base : Heap} (T : Tx K mg) : FnOk P w K mg base (L2.CX P w) 3 T.a__law_pairs T.fd__law_pairs ["points"] (Prm K T.M (args__law_pairs T) dom__law_pairs (out__law_pairs T)) := by
  refine T.F__law_pairs.okX sc__law_pairs (fun vs H Q E h => by obtain ⟨a, F, _, al, _⟩ := h; exact al.length) (fun cdv A outer s H vs Q E hr h => ?_)
  have tk : Takes (cxOf (L2.CX P w) P w K mg base N__law_pairs "_law_pairs" (defScope s__law_pairs) T.a__law_pairs cdv A outer s H E) (fun cls d _ H => E cls d H) := takes_of rfl rfl rfl rfl
  obtain ⟨a, F, fh, al, hd, th⟩ := h
  refine ⟨_, (pss_cons (ps_set (i := 1) sc__law_pairs.nd rfl (by first | exact Or.inl rfl | exact Or.inr rfl) (pe_lst pa_nil))
      (pss_cons (ps_for (passes_of rfl) rfl (pi_range1 (by rfl) T.z_range (pa_cons (pe_callB call_len_seq (by rfl) T.z_len PySem.boot_len (pa_cons (pv 0) pa_nil)) pa_nil)) (pg_name (i := 2) sc__law_pairs.nd rfl (by first | exact Or.inl rfl | exact Or.inr rfl)) (pss_one (ps_for (passes_of rfl) rfl (pi_range2 (by rfl) T.z_range (pa_cons (pe_op op_add (pv 2) pe_int) (pa_cons (pe_callB call_len_seq (by rfl) T.z_len PySem.boot_len (pa_cons (pv 0) pa_nil)) pa_nil))) (pg_name (i := 3) sc__law_pairs.nd rfl (by first | exact Or.inl rfl | exact Or.inr rfl)) (pss_one (ps_for (passes_of rfl) rfl (pi_range2 (by rfl) T.z_range (pa_cons (pe_op op_add (pv 3) pe_int) (pa_cons (pe_callB call_len_seq (by rfl) T.z_len PySem.boot_len (pa_cons (pv 0) pa_nil)) pa_nil))) (pg_name (i := 4) sc__law_pairs.nd rfl (by first | exact Or.inl rfl | exact Or.inr rfl)) (pss_cons (ps_set (i := 5) sc__law_pairs.nd rfl (by first | exact Or.inl rfl | exact Or.inr rfl) (pe_tup (pa_cons (pv 2) (pa_cons (pv 3) (pa_cons (pv 4) pa_nil)))))
      (pss_one (ps_for (passes_of rfl) rfl (pi_range1 (by rfl) T.z_range (pa_cons (pe_callB call_len_seq (by rfl) T.z_len PySem.boot_len (pa_cons (pv 0) pa_nil)) pa_nil)) (pg_name (i := 6) sc__law_pairs.nd rfl (by first | exact Or.inl rfl | exact Or.inr rfl)) (pss_one (ps_if (PW.pt (pw_and (pt_cmpR op_notIn_seq (pv 6) (pv 5) (by rfl)) (pw_and1 (pt_val (pe_callS (ok__law_is_within T) (hr.mono (by decide)) (by rfl) T.g__law_is_within T.F__law_is_within.kp (b__law_is_within T) (fun σ => passAt tk σ) (pa_cons (pv 0) (pa_cons (pv 6) (pa_cons (pv 5) pa_nil)))))))) (pss_one (ps_expr (pe_bm PySem.F.plainAttrs_list PySem.F.slot_list_append PySem.F.type_list_append mt_append (pv 1) (pa_cons (pe_tup (pa_cons (pv 5) (pa_cons (pv 6) pa_nil))) pa_nil)))) pss_nil))))))))))
      (pss_one (ps_ret (pv 1))))), ?_⟩
  obtain ⟨hl, hn⟩ := hd
  let W0 : WX := fun cls d _ H => E cls d H
  have ho : out__law_pairs T a = .ok (dv K (.list ((prsI a).map encP))) := rfl
  rw [ho] at th
  have hlen := prsI_len hl
  have len : ∀ ps : Kn, ps[0]? = some (some (dv K (.list (a.map pD)))) → JD K T.M W0 (tCB (rLenS K) (tCons (tVar 0) tNil)) ps (.int a.length) := fun ps h => je_is (je_lenL (je_var (ps := ps) (i := 0) h)) (by rw [List.length_map])
  have up : ∀ ps : Kn, ps[0]? = some (some (dv K (.list (a.map pD)))) → JI K T.M W0 (iRng1 (tCons (tCB (rLenS K) (tCons (tVar 0) tNil)) tNil)) ps ((rg 0 a.length).map .int) := fun ps h => ji_upto (len ps h) (by omega)
  refine fin_ok (r := .rt (dv K (.list ((prsI a).map encP)))) (jl_new fun D F1 H1 hD => ?_) (by exact rfl) fh al th
  refine jl_seq (qs := [some (dv K (.list (a.map pD))), some (xv (.ref D)), none, none, none, none, none]) (es := (prsI a).map encP) ?_ (jl_ret rfl hD)
  rw [prs_nest hl]
  have hB : ((prsI a).map encP).length ≤ 50000 := by rw [List.length_map]; omega
  rw [prs_nest hl] at hB
  refine jl_is (jl_grow (vs := [2]) 50000 (rg 0 a.length) .int (fun u => (beh u a.length).flatMap fun v => (beh v a.length).flatMap fun z => (rg 0 a.length).flatMap fun d => if inT a [u, v, z] d = true then [encP ([u, v, z], d)] else []) (up _ rfl) (fun u hu es hes => ⟨_, jg_name, ?_⟩) (by rw [List.length_nil]; omega)) (List.nil_append _)
  have hu2 := rg_mem hu
  refine jl_weak (jl_grow (vs := [3]) 50000 (beh u a.length) .int (fun v => (beh v a.length).flatMap fun z => (rg 0 a.length).flatMap fun d => if inT a [u, v, z] d = true then [encP ([u, v, z], d)] else []) (ji_rng2 (lo := u + 1) (n := a.length) (ja_cons (je_add (je_var (i := 2) rfl) je_int) (ja_cons (len _ rfl) ja_nil)) ⟨by omega, by omega, by omega, by omega⟩) (fun v hv es2 hes2 => ⟨_, jg_name, ?_⟩) hes) ⟨.inr rfl, .inr rfl, .inl rfl, .inr rfl, .inr rfl, .inr rfl, .inr rfl, trivial⟩
  have hv2 := rg_mem hv
  refine jl_weak (jl_grow (vs := [4]) 50000 (beh v a.length) .int (fun z => (rg 0 a.length).flatMap fun d => if inT a [u, v, z] d = true then [encP ([u, v, z], d)] else []) (ji_rng2 (lo := v + 1) (n := a.length) (ja_cons (je_add (je_var (i := 3) rfl) je_int) (ja_cons (len _ rfl) ja_nil)) ⟨by omega, by omega, by omega, by omega⟩) (fun z hz es3 hes3 => ⟨_, jg_name, ?_⟩) hes2) ⟨.inr rfl, .inr rfl, .inr rfl, .inl rfl, .inr rfl, .inr rfl, .inr rfl, trivial⟩
  have hz2 := rg_mem hz
  refine jl_weak (jl_seq (jl_js (js_set (i := 5) (P := dv K (tupI [u, v, z])) (je_tup (ds := [.int u, .int v, .int z]) (ja_cons (je_var (i := 2) rfl) (ja_cons (je_var (i := 3) rfl) (ja_cons (je_var (i := 4) rfl) ja_nil))))))
    (jl_grow (vs := [6]) 50000 (rg 0 a.length) .int (fun d => if inT a [u, v, z] d = true then [encP ([u, v, z], d)] else []) (up _ rfl) (fun d hdm es4 hes4 => ⟨_, jg_name, ?_⟩) hes3)) ⟨.inr rfl, .inr rfl, .inr rfl, .inr rfl, .inl rfl, .inl rfl, .inr rfl, trivial⟩
  have hd2 := rg_mem hdm
  have no : ∀ x : Int, 0 ≤ x → x < a.length → isNo x a.length = true := fun x h3 h4 => by
    unfold isNo
    simp [h3, h4]
  refine jl_weak (jl_is (jl_if (b := inT a [u, v, z] d) (jt_and (jt_test (je_notInT (ns := [u, v, z]) (je_var (i := 6) rfl) (je_var (i := 5) rfl))) fun _ => jt_B (je_call (args := args__law_is_within T) (dom := dom__law_is_within) (out := out__law_is_within T) (a, u, v, z, d) (ja_cons (je_var (i := 0) rfl) (ja_cons (je_var (i := 6) rfl) (ja_cons (je_var (i := 5) rfl) ja_nil))) ⟨hn, no u (by omega) (by omega), no v (by omega) (by omega), no z (by omega) (by omega), no d (by omega) (by omega)⟩)) (R := .nx [some (dv K (.list (a.map pD))), some (xv (.ref D)), some (dv K (.int u)), some (dv K (.int v)), some (dv K (.int z)), some (dv K (tupI [u, v, z])), some (dv K (.int d))] (es4 ++ if inT a [u, v, z] d = true then [encP ([u, v, z], d)] else [])) (fun hb => ?_) (fun hb => ?_)) rfl) ⟨.inr rfl, .inr rfl, .inr rfl, .inr rfl, .inr rfl, .inr rfl, .inl rfl, trivial⟩
  · rw [if_pos hb]
    rw [if_pos hb] at hes4
    simp only [List.length_cons, List.length_nil] at hes4
    exact jl_app (i := 1) rfl hD (ja_cons (je_tup (ds := [tupI [u, v, z], .int d]) (ja_cons (je_var (i := 5) rfl) (ja_cons (je_var (i := 6) rfl) ja_nil))) ja_nil) (by omega)
  · rw [hb, if_neg (by decide), List.append_nil]
    exact jl_js js_next
/-! ### fives, order -/
def maskL (n : Nat) (m : Int) : List Int := (rg 0 n).filter fun k => decide (Builtin.bitAnd (m / 2 ^ k.toNat) 1 = 1)
def fivesL (n : Nat) : List (List Int) := ((rg 0 (2 ^ n)).map (maskL n)).filter fun x => decide (x.length = 5)
def args__law_fives {K : PySem.W.Frag} {mg : Str → Option Value} (T : Tx K mg) : Nat → List PV := fun a => [dv K (.int a)]
def dom__law_fives : Nat → Prop := fun a => a ≤ 10
def out__law_fives {K : PySem.W.Frag} {mg : Str → Option Value} (T : Tx K mg) : Nat → Out := fun a => .ok (dv K (.list ((fivesL a).map fun x => .list (x.map .int))))
theorem fives_flat (n : Nat) : (fivesL n).map (fun x => PyData.list (x.map .int)) = (rg 0 (2 ^ n)).flatMap fun m => if decide ((maskL n m).length = 5) = true then [PyData.list ((maskL n m).map .int)] else [] := by
  unfold fivesL
  rw [flat_if, List.filter_map, List.map_map]
  rfl
theorem pow_le (n : Nat) (h : n ≤ 10) : 2 ^ n ≤ 1024 := Nat.pow_le_pow_right (by decide) h
theorem ok__law_fives {P : Program} {w : World} {K : PySem.W.Frag} {mg : Str → Option Value} {base : Heap} (T : Tx K mg) : FnOk P w K mg base (L2.CX P w) 1 T.a__law_fives T.fd__law_fives ["many"] (Prm K T.M (args__law_fives T) dom__law_fives (out__law_fives T)) := by
  refine T.F__law_fives.okX sc__law_fives (fun vs H Q E h => by obtain ⟨a, F, _, al, _⟩ := h; exact al.length) (fun cdv A outer s H vs Q E hr h => ?_)
  have tk : Takes (cxOf (L2.CX P w) P w K mg base N__law_fives "_law_fives" (defScope s__law_fives) T.a__law_fives cdv A outer s H E) (fun cls d _ H => E cls d H) := takes_of rfl rfl rfl rfl
  obtain ⟨a, F, fh, al, hd, th⟩ := h
  refine ⟨_, (pss_cons (ps_set (i := 1) sc__law_fives.nd rfl (by first | exact Or.inl rfl | exact Or.inr rfl) (pe_lst pa_nil))
      (pss_cons (ps_for (passes_of rfl) rfl (pi_range1 (by rfl) T.z_range (pa_cons (pe_op op_shl pe_int (pv 0)) pa_nil)) (pg_name (i := 2) sc__law_fives.nd rfl (by first | exact Or.inl rfl | exact Or.inr rfl)) (pss_cons (ps_setLc (i := 3) (own := [("k", 4)]) (g := (gName 4)) (tt := (tTest (tOp rEq (tOp (rI0 fun i j => .int (Builtin.bitAnd i j)) (tOp (rI (fun _ j => 0 ≤ j) fun i j => .int (i / 2 ^ j.toNat)) (tVar 2) (tVar 4)) (tC (.int 1))) (tC (.int 1))))) (te := (tVar 4)) rfl sc__law_fives.nd rfl rfl (sw_true rfl rfl rfl (by decide +kernel)) (pi_range1 (by rfl) T.z_range (pa_cons (pv 0) pa_nil)) (blkOk_by (N := N__law_fives) (sc := defScope s__law_fives) (own := [("k", 4)]) (by decide +kernel)) (fun _ _ _ _ _ => (pg_name (i := 4) sc__law_fives.nd rfl (by first | exact Or.inl rfl | exact Or.inr rfl))) (fun _ _ _ _ _ => by exact pts_one (pt_cmpR op_eq (pe_op op_and (pe_op op_shr (pv 2) (pv 4)) pe_int) pe_int (nomark _))) (fun _ _ _ _ _ => by exact (pv 4)))
      (pss_one (ps_if (pt_cmpR op_eq (pe_callB call_len_seq (by rfl) T.z_len PySem.boot_len (pa_cons (pv 3) pa_nil)) pe_int (nomark _)) (pss_one (ps_expr (pe_bm PySem.F.plainAttrs_list PySem.F.slot_list_append PySem.F.type_list_append mt_append (pv 1) (pa_cons (pv 3) pa_nil)))) pss_nil))))
      (pss_one (ps_ret (pv 1))))), ?_⟩
  have hn : a ≤ 10 := hd
  let W0 : WX := fun cls d _ H => E cls d H
  have hp := pow_le a hn
  have hlen : (fivesL a).length ≤ 2000 := by
    unfold fivesL
    have := List.length_filter_le (fun x : List Int => decide (x.length = 5)) ((rg 0 (2 ^ a)).map (maskL a))
    rw [List.length_map, rg_length] at this
    omega
  refine fin_ok (r := .rt (dv K (.list ((fivesL a).map fun x => .list (x.map .int))))) (jl_new fun D F1 H1 hD => ?_) (by exact rfl) fh al th
  refine jl_seq (qs := [some (dv K (.int a)), some (xv (.ref D)), none, none, none]) (es := (fivesL a).map fun x => .list (x.map .int)) ?_ (jl_ret rfl hD)
  have hB : ((fivesL a).map fun x => PyData.list (x.map .int)).length ≤ 50000 := by rw [List.length_map]; omega
  rw [fives_flat] at hB ⊢
  refine jl_is (jl_grow (vs := [2]) 50000 (rg 0 (2 ^ a)) .int (fun m => if decide ((maskL a m).length = 5) = true then [PyData.list ((maskL a m).map .int)] else []) (ji_is (ji_rng1 (n := ((2 ^ a : Nat) : Int)) (ja_cons (je_is (je_shl je_int (je_var (i := 0) rfl) ⟨by omega, by omega, by decide⟩) (by congr 1; rw [Int.toNat_natCast, Int.one_mul]; push_cast; rfl)) ja_nil) ⟨Int.le_trans (by decide) (Int.natCast_nonneg _), Int.le_trans (Int.ofNat_le.mpr hp) (by decide)⟩) (by rw [Int.toNat_natCast])) (fun m hm es hes => ⟨_, jg_name, ?_⟩) (by rw [List.length_nil]; omega)) (List.nil_append _)
  have hm2 := rg_mem hm
  refine jl_weak (jl_seq (jl_js (js_set (i := 3) (P := dv K (.list ((maskL a m).map .int))) (je_lc (W' := fun _ _ _ _ => False) (rg 0 a) .int (fun k => decide (Builtin.bitAnd (m / 2 ^ k.toNat) 1 = 1)) .int (ji_upto (je_var (i := 0) rfl) (by omega)) (by rw [rg_length]; omega) fun k hk => ⟨_, jg_name, jt_test (je_eqI (je_band (je_shr (je_var (i := 2) rfl) (je_var (i := 4) rfl) (rg_mem hk).1) je_int) je_int), fun _ => je_var (i := 4) rfl⟩)))
    (jl_if (b := decide ((maskL a m).length = 5)) (jt_is (jt_test (je_eqI (je_lenL (je_var (i := 3) rfl)) (je_int (i := 5)))) ?_) (R := .nx [some (dv K (.int a)), some (xv (.ref D)), some (dv K (.int m)), some (dv K (.list ((maskL a m).map .int))), none] (es ++ if decide ((maskL a m).length = 5) = true then [PyData.list ((maskL a m).map .int)] else [])) (fun hb => ?_) (fun hb => ?_))) ⟨.inr rfl, .inr rfl, .inl rfl, .inl rfl, .inr rfl, trivial⟩
  · rw [List.length_map]
    by_cases h : (maskL a m).length = 5
    · simp [h]
    · have : ¬ ((maskL a m).length : Int) = 5 := by omega
      simp [h, this]
  · rw [if_pos hb]
    rw [if_pos hb] at hes
    simp only [List.length_cons, List.length_nil] at hes
    exact jl_app (i := 1) rfl hD (ja_cons (je_var (i := 3) rfl) ja_nil) (by omega)
  · rw [hb, if_neg (by decide), List.append_nil]
    exact jl_js js_next
end K12

namespace K12
open PySem PySem.Spec PyProof.Rows L2 Evl EB PySem.W
/-! ### the order -/
structure OS where
  pool : List Int
  ord : List Int
  c : Int
def osStep (k : Nat) (s : OS) : OS := ⟨s.pool.eraseIdx (s.c % (k : Int)).toNat, s.ord ++ [s.pool.getD (s.c % (k : Int)).toNat 0], s.c / (k : Int)⟩
def osAt (c : Int) : Nat → OS
  | 0 => ⟨[0, 1, 2, 3, 4], [], c⟩
  | j + 1 => osStep (5 - j) (osAt c j)
def ordL (c : Int) : List Int := (osAt c 5).ord
theorem mod_nat {c : Int} {k : Nat} (h : 0 < k) : c % (k : Int) = ((c % (k : Int)).toNat : Int) ∧ (c % (k : Int)).toNat < k := by
  have h1 : 0 ≤ c % (k : Int) := Int.emod_nonneg _ (by omega)
  have h2 : c % (k : Int) < k := Int.emod_lt_of_pos _ (by omega)
  omega
theorem os_len (c : Int) : ∀ j : Nat, j ≤ 5 → (osAt c j).pool.length = 5 - j ∧ (osAt c j).ord.length = j
  | 0, _ => ⟨rfl, rfl⟩
  | j + 1, h => by
    obtain ⟨h1, h2⟩ := os_len c j (by omega)
    have h3 := (mod_nat (c := (osAt c j).c) (k := 5 - j) (by omega)).2
    refine ⟨?_, ?_⟩
    · show ((osAt c j).pool.eraseIdx _).length = _
      rw [List.length_eraseIdx, h1, if_pos h3]
      omega
    · show ((osAt c j).ord ++ [_]).length = _
      rw [List.length_append, h2]
      rfl
theorem erase_perm : ∀ {l : List Int} {i : Nat}, (h : i < l.length) → (l.getD i 0 :: l.eraseIdx i).Perm l
  | a :: r, 0, _ => by simp
  | a :: r, i + 1, h => by
    have ih := erase_perm (l := r) (i := i) (by simpa using h)
    show ((a :: r).getD (i + 1) 0 :: a :: r.eraseIdx i).Perm (a :: r)
    have e : (a :: r).getD (i + 1) 0 = r.getD i 0 := by simp
    rw [e]
    exact (List.Perm.swap a _ _).trans (ih.cons a)
theorem os_perm (c : Int) : ∀ j : Nat, j ≤ 5 → ((osAt c j).ord ++ (osAt c j).pool).Perm [0, 1, 2, 3, 4]
  | 0, _ => List.Perm.refl _
  | j + 1, h => by
    have ih := os_perm c j (by omega)
    have h3 := (mod_nat (c := (osAt c j).c) (k := 5 - j) (by omega)).2
    have h1 := (os_len c j (by omega)).1
    have ep := erase_perm (l := (osAt c j).pool) (i := ((osAt c j).c % ((5 - j : Nat) : Int)).toNat) (by omega)
    show (((osAt c j).ord ++ [_]) ++ (osAt c j).pool.eraseIdx _).Perm _
    rw [List.append_assoc]
    exact (List.Perm.append_left _ ep).trans ih
theorem ord_perm (c : Int) : (ordL c).Perm [0, 1, 2, 3, 4] := by
  have h := os_perm c 5 (Nat.le_refl 5)
  have e : (osAt c 5).pool = [] := List.length_eq_zero_iff.mp (os_len c 5 (Nat.le_refl 5)).1
  rw [e, List.append_nil] at h
  exact h
def args__law_order {K : PySem.W.Frag} {mg : Str → Option Value} (T : Tx K mg) : Int → List PV := fun a => [dv K (.int a)]
def dom__law_order : Int → Prop := fun _ => True
def out__law_order {K : PySem.W.Frag} {mg : Str → Option Value} (T : Tx K mg) : Int → Out := fun a => .ok (dv K (.list ((ordL a).map .int)))
def itI (K : PySem.W.Frag) (l : List Int) : List PV := (l.map PyData.int).map (dv K)
theorem ok__law_order {P : Program} {w : World} {K : PySem.W.Frag} {mg : Str → Option Value} {base : Heap} (T : Tx K mg) : FnOk P w K mg base (L2.CX P w) 1 T.a__law_order T.fd__law_order ["c"] (Prm K T.M (args__law_order T) dom__law_order (out__law_order T)) := by
  refine T.F__law_order.okX sc__law_order (fun vs H Q E h => by obtain ⟨a, F, _, al, _⟩ := h; exact al.length) (fun cdv A outer s H vs Q E hr h => ?_)
  have tk : Takes (cxOf (L2.CX P w) P w K mg base N__law_order "_law_order" (defScope s__law_order) T.a__law_order cdv A outer s H E) (fun cls d _ H => E cls d H) := takes_of rfl rfl rfl rfl
  obtain ⟨a, F, fh, al, hd, th⟩ := h
  refine ⟨_, (pss_cons (ps_set (i := 1) sc__law_order.nd rfl (by first | exact Or.inl rfl | exact Or.inr rfl) (pe_lst (pa_cons pe_int (pa_cons pe_int (pa_cons pe_int (pa_cons pe_int (pa_cons pe_int pa_nil)))))))
      (pss_cons (ps_set (i := 2) sc__law_order.nd rfl (by first | exact Or.inl rfl | exact Or.inr rfl) (pe_lst pa_nil))
      (pss_cons (ps_for (passes_of rfl) rfl (pi_tup (pe_tup (pa_cons pe_int (pa_cons pe_int (pa_cons pe_int (pa_cons pe_int (pa_cons pe_int pa_nil))))))) (pg_name (i := 3) sc__law_order.nd rfl (by first | exact Or.inl rfl | exact Or.inr rfl)) (pss_cons (ps_expr (pe_bm PySem.F.plainAttrs_list PySem.F.slot_list_append PySem.F.type_list_append mt_append (pv 2) (pa_cons (pe_bm PySem.F.plainAttrs_list PySem.F.slot_list_pop PySem.F.type_list_pop mt_popAt (pv 1) (pa_cons (pe_op op_mod (pe_callTy call_int1 (by rfl) T.z_int PyProof.Rows.boot_int (pa_cons (pv 0) pa_nil)) (pv 3)) pa_nil)) pa_nil)))
      (pss_one (ps_set (i := 0) sc__law_order.nd rfl (by first | exact Or.inl rfl | exact Or.inr rfl) (pe_op op_fdiv (pv 0) (pv 3))))))
      (pss_one (ps_ret (pv 2)))))), ?_⟩
  refine fin_ok (r := .rt (dv K (.list ((ordL a).map .int)))) (js_own fun F1 H1 => jm_lst (M := T.M) (W := fun cls d _ H => E cls d H) (Ps := itI K [0, 1, 2, 3, 4]) (ja_cons je_int (ja_cons je_int (ja_cons je_int (ja_cons je_int (ja_cons je_int ja_nil))))) (show 5 ≤ 100000 by decide) fun D1 => jm_lst (M := T.M) (W := fun cls d _ H => E cls d H) (Ps := []) ja_nil (show 0 ≤ 100000 by decide) fun D2 => ?_) (by exact rfl) fh al th
  let f : Nat → Kn := fun j => [some (dv K (.int (osAt a j).c)), some (xv (.ref D1)), some (xv (.ref D2)), none]
  let l : Nat → Ow := fun j => [(D2, itI K (osAt a j).ord), (D1, itI K (osAt a j).pool)]
  refine jm_seq (qs := f 5) (Os1 := l 5) (jm_for (M := T.M) (W := fun cls d _ H => E cls d H) (vs := [3]) ((List.range 5).map fun j => PyData.int ((5 - j : Nat) : Int)) f l (ji_is (ji_tup (je_tup (ds := [.int 5, .int 4, .int 3, .int 2, .int 1]) (ja_cons je_int (ja_cons je_int (ja_cons je_int (ja_cons je_int (ja_cons je_int ja_nil))))))) rfl) rfl rfl fun j d hd => ?_) (jm_ret (i := 2) (j := 0) (D := D2) (ds := (ordL a).map .int) rfl rfl)
  have hj : j < 5 := by
    have := (List.getElem?_eq_some_iff.mp hd).1
    simpa using this
  rw [List.getElem?_map, List.getElem?_range hj] at hd
  cases hd
  obtain ⟨h1, h2⟩ := os_len a j (by omega)
  have hm := mod_nat (c := (osAt a j).c) (k := 5 - j) (by omega)
  refine ⟨_, jg_name, ?_⟩
  refine jm_weak (jm_seq (Os1 := l (j + 1)) (jm_is (jm_drop (jx_app (D := D2) (i := 0) (i0 := 0) (P := dv K (.int ((osAt a j).pool.getD ((osAt a j).c % ((5 - j : Nat) : Int)).toNat 0))) (jx_var (i := 2) rfl) rfl (jx_pop (D := D1) (i := 1) (i0 := 1) (j := ((osAt a j).c % ((5 - j : Nat) : Int)).toNat) (jx_var (i := 1) rfl) rfl (jx_int (M := T.M) (W := fun cls d _ H => E cls d H) (je_is (je_mod (je_intI (je_var (i := 0) rfl)) (je_var (i := 3) rfl) (by omega)) (congrArg PyData.int hm.1))) rfl (by unfold itI; rw [List.length_map, List.length_map, h1]; omega) ?_) rfl (by unfold itI; rw [List.length_map, List.length_map, h2]; omega))) ?_)
    (jm_js (M := T.M) (W := fun cls d _ H => E cls d H) (js_set (i := 0) (P := dv K (.int (osAt a (j + 1)).c)) (je_div (je_var (i := 0) rfl) (je_var (i := 3) rfl) ⟨by omega, by omega⟩)))) ⟨.inr rfl, .inr rfl, .inr rfl, .inl rfl, trivial⟩
  · unfold itI
    rw [List.map_map, List.getElem?_map, List.getD_eq_getElem?_getD, List.getElem?_eq_getElem (by omega)]
    rfl
  · show [_, _] = [_, _]
    congr 1
    · show (D2, itI K _ ++ [_]) = (D2, itI K ((osAt a j).ord ++ [_]))
      unfold itI
      rw [List.map_append, List.map_append]
      rfl
    · show [(D1, (itI K _).eraseIdx _)] = [(D1, itI K ((osAt a j).pool.eraseIdx _))]
      unfold itI
      rw [List.map_map, List.map_map]
      congr 2
      have er : ∀ (h : Int → PV) (l : List Int) (i : Nat), (l.map h).eraseIdx i = (l.eraseIdx i).map h := fun h l => by
        induction l with
        | nil => intro i; simp
        | cons x r ih =>
          intro i
          cases i with
          | zero => rfl
          | succ i =>
            show h x :: (r.map h).eraseIdx i = h x :: (r.eraseIdx i).map h
            rw [ih]
      exact er _ _ _
end K12

namespace K12
open PySem PySem.Spec PyProof.Rows L2 Evl EB PySem.W
/-! ### five of the points -/
def fi (F : List Int) (i : Int) : Int := F.getD i.toNat 0
def okF (n : Nat) (F : List Int) : Bool := decide (F.length = 5) && decide ((subsL n 3).filter (fun t => t.all fun k => F.contains k) = (subsL 5 3).map fun t => t.map (fi F)) && decide ((rg 0 n).filter (fun d => F.contains d) = F) && decide F.Nodup && F.all fun x => decide (0 ≤ x) && decide (x < n)
theorem okF_all : ∀ n : Nat, n < 10 → (subsL n 5).all (okF n) = true := by decide +kernel
theorem fives_in : ∀ n : Nat, n < 9 → (fivesL n).all (fun F => (subsL n 5).contains F) = true := by decide +kernel
structure OkF (n : Nat) (F : List Int) : Prop where
  len : F.length = 5
  t3 : (subsL n 3).filter (fun t => t.all fun k => F.contains k) = (subsL 5 3).map fun t => t.map (fi F)
  d1 : (rg 0 n).filter (fun d => F.contains d) = F
  nd : F.Nodup
  rn : ∀ x ∈ F, 0 ≤ x ∧ x < n
theorem okF_of {n : Nat} (hn : n < 10) {F : List Int} (h : F ∈ subsL n 5) : OkF n F := by
  have := List.all_eq_true.mp (okF_all n hn) F h
  unfold okF at this
  simp only [Bool.and_eq_true, decide_eq_true_eq] at this
  obtain ⟨⟨⟨⟨h1, h2⟩, h3⟩, h4⟩, h5⟩ := this
  refine ⟨h1, h2, h3, h4, fun x hx => ?_⟩
  have := List.all_eq_true.mp h5 x hx
  simpa using this
theorem fi_map {F : List Int} (h : F.length = 5) : (rg 0 5).map (fi F) = F := by
  match F, h with
  | [a, b, c, d, e], _ => rfl
theorem pt_sub {pts : List Pt} {F : List Int} {i : Int} (h : 0 ≤ i ∧ i < F.length) : pt (subP pts F) i = pt pts (fi F i) := by
  obtain ⟨j, rfl⟩ := Int.eq_ofNat_of_zero_le h.1
  have hj : j < F.length := by omega
  unfold subP
  rw [pt_nat (by rw [List.length_map]; exact hj), List.getElem_map]
  unfold fi
  simp [hj]
theorem fi_inj {F : List Int} (nd : F.Nodup) {i j : Int} (hi : 0 ≤ i ∧ i < F.length) (hj : 0 ≤ j ∧ j < F.length) (e : fi F i = fi F j) : i = j := by
  obtain ⟨a, rfl⟩ := Int.eq_ofNat_of_zero_le hi.1
  obtain ⟨b, rfl⟩ := Int.eq_ofNat_of_zero_le hj.1
  have ha : a < F.length := by omega
  have hb : b < F.length := by omega
  unfold fi at e
  simp [ha, hb] at e
  rcases Nat.lt_trichotomy a b with z | z | z
  · exact absurd e (List.pairwise_iff_getElem.mp (List.nodup_iff_pairwise_ne.mp nd) a b ha hb z)
  · omega
  · exact absurd e.symm (List.pairwise_iff_getElem.mp (List.nodup_iff_pairwise_ne.mp nd) b a hb ha z)
theorem contains_fi {F : List Int} (nd : F.Nodup) {t : List Int} {d : Int} (ht : ∀ x ∈ t, 0 ≤ x ∧ x < F.length) (hd : 0 ≤ d ∧ d < F.length) : (t.map (fi F)).contains (fi F d) = t.contains d := by
  rw [Bool.eq_iff_iff, List.contains_iff_mem, List.contains_iff_mem, List.mem_map]
  exact ⟨fun ⟨x, hx, e⟩ => fi_inj nd (ht x hx) hd e ▸ hx, fun h => ⟨d, h, rfl⟩⟩
theorem inT_fi {pts : List Pt} {F : List Int} (nd : F.Nodup) {t : List Int} {d : Int} (ht : ∀ x ∈ t, 0 ≤ x ∧ x < F.length) (hd : 0 ≤ d ∧ d < F.length) : inT pts (t.map (fi F)) (fi F d) = inT (subP pts F) t d := by
  unfold inT
  rw [contains_fi nd ht hd]
  match t, ht with
  | [], _ => rfl
  | [_], _ => rfl
  | [_, _], _ => rfl
  | [a, b, c], ht =>
    show (_ && arT pts (fi F a) (fi F b) (fi F c) (fi F d)) = (_ && arT (subP pts F) a b c d)
    unfold arT
    rw [pt_sub (ht a (by simp)), pt_sub (ht b (by simp)), pt_sub (ht c (by simp)), pt_sub hd]
  | _ :: _ :: _ :: _ :: _, _ => rfl
/-- how many pairs a list has -/
def cI (pts : List Pt) : Nat := DC.S (subsL pts.length 3) fun t => DC.S (rg 0 pts.length) fun d => if inT pts t d = true then 1 else 0
theorem prsI_cI (pts : List Pt) : (prsI pts).length = cI pts := by
  rw [← DC.S_one]
  unfold prsI cI
  rw [S_flat]
  refine DC.S_congr fun t _ => ?_
  rw [S_map, DC.S_filter]
def selP (F : List Int) (x : List Int × Int) : Bool := F.contains x.2 && x.1.all fun k => F.contains k
theorem subs5_in : (subsL 5 3).all (fun t => t.all fun x => decide (0 ≤ x) && decide (x < 5)) = true := by decide +kernel
theorem sel_len {pts : List Pt} {F : List Int} (o : OkF pts.length F) : ((prsI pts).filter (selP F)).length = cI (subP pts F) := by
  have hl : (subP pts F).length = 5 := by
    unfold subP
    rw [List.length_map, o.len]
  rw [DC.S_len]
  unfold prsI cI
  rw [S_flat, hl]
  have e1 : (DC.S (subsL pts.length 3) fun t => DC.S (((rg 0 pts.length).filter (inT pts t)).map fun d => (t, d)) fun x => if selP F x = true then 1 else 0) = DC.S ((subsL pts.length 3).filter fun t => t.all fun k => F.contains k) fun t => DC.S ((rg 0 pts.length).filter fun d => F.contains d) fun d => if inT pts t d = true then 1 else 0 := by
    rw [DC.S_filter]
    refine DC.S_congr fun t _ => ?_
    rw [S_map, DC.S_filter]
    cases ht : t.all (fun k => F.contains k) with
    | true =>
      rw [if_pos rfl, DC.S_filter]
      refine DC.S_congr fun d _ => ?_
      unfold selP
      rw [ht, Bool.and_true]
      cases inT pts t d <;> cases F.contains d <;> rfl
    | false =>
      rw [if_neg (by decide)]
      refine Eq.trans (DC.S_congr (g := fun _ => 0) fun d _ => ?_) (DC.S_zero _)
      unfold selP
      rw [ht, Bool.and_false]
      cases inT pts t d <;> rfl
  rw [e1, o.t3, o.d1, S_map]
  refine DC.S_congr fun t ht => ?_
  have ht2 : ∀ x ∈ t, 0 ≤ x ∧ x < F.length := fun x hx => by
    have := List.all_eq_true.mp (List.all_eq_true.mp subs5_in t ht) x hx
    rw [o.len]
    simpa using this
  have eF : DC.S F (fun d => if inT pts (t.map (fi F)) d = true then 1 else 0) = DC.S ((rg 0 5).map (fi F)) fun d => if inT pts (t.map (fi F)) d = true then 1 else 0 := by rw [fi_map o.len]
  show DC.S F (fun d => if inT pts (t.map (fi F)) d = true then 1 else 0) = _
  rw [eF, S_map]
  refine DC.S_congr fun d hd => ?_
  have := rg_mem hd
  rw [inT_fi o.nd ht2 (by rw [o.len]; omega)]
theorem subs53 : subsL 5 3 = [[0, 1, 2], [0, 1, 3], [0, 1, 4], [0, 2, 3], [0, 2, 4], [0, 3, 4], [1, 2, 3], [1, 2, 4], [1, 3, 4], [2, 3, 4]] := by decide +kernel
theorem inT_wo {Q : List Pt} (nd : Q.Nodup) {a b c d : Int} (ha : 0 ≤ a ∧ a < Q.length) (hb : 0 ≤ b ∧ b < Q.length) (hc : 0 ≤ c ∧ c < Q.length) (hd : 0 ≤ d ∧ d < Q.length) (h1 : a ≠ b) (h2 : a ≠ c) (h3 : b ≠ c) :
    (if inT Q [a, b, c] d = true then 1 else 0) = FV.wo gA (pt Q d) (pt Q a) (pt Q b) (pt Q c) := by
  have inj : ∀ x y : Int, 0 ≤ x ∧ x < Q.length → 0 ≤ y ∧ y < Q.length → x ≠ y → pt Q x ≠ pt Q y := fun x y hx hy ne e => by
    obtain ⟨i, rfl⟩ := Int.eq_ofNat_of_zero_le hx.1
    obtain ⟨j, rfl⟩ := Int.eq_ofNat_of_zero_le hy.1
    rw [pt_nat (by omega), pt_nat (by omega)] at e
    rcases Nat.lt_trichotomy i j with z | z | z
    · exact List.pairwise_iff_getElem.mp (List.nodup_iff_pairwise_ne.mp nd) i j (by omega) (by omega) z e
    · omega
    · exact List.pairwise_iff_getElem.mp (List.nodup_iff_pairwise_ne.mp nd) j i (by omega) (by omega) z e.symm
  unfold FV.wo inT arT
  have n1 := inj a b ha hb h1
  have n2 := inj a c ha hc h2
  have n3 := inj b c hb hc h3
  by_cases da : d = a
  · subst da
    simp
  · by_cases db : d = b
    · subst db
      simp
    · by_cases dc : d = c
      · subst dc
        simp
      · have m1 := inj d a hd ha da
        have m2 := inj d b hd hb db
        have m3 := inj d c hd hc dc
        have ct : [a, b, c].contains d = false := by
          simp [da, db, dc]
        rw [ct]
        simp [n1, n2, n3, m1, m2, m3]
theorem A3_five {Q : List Pt} (h : Q.length = 5) (f : Pt → Pt → Pt → Nat) : FV.A3 f Q = DC.S (subsL 5 3) fun t => match t with
  | [a, b, c] => f (pt Q a) (pt Q b) (pt Q c)
  | _ => 0 := by
  rw [subs53]
  match Q, h with
  | [q0, q1, q2, q3, q4], _ =>
    simp only [FV.A3, FV.A2, DC.S, List.map_cons, List.map_nil, List.sum_cons, List.sum_nil]
    show _ = f q0 q1 q2 + (f q0 q1 q3 + (f q0 q1 q4 + (f q0 q2 q3 + (f q0 q2 q4 + (f q0 q3 q4 + (f q1 q2 q3 + (f q1 q2 q4 + (f q1 q3 q4 + (f q2 q3 q4 + 0)))))))))
    omega
/-- a point's triangles, two ways -/
theorem A3_in {Q : List Pt} (h : Q.length = 5) (nd : Q.Nodup) {d : Int} (hd : 0 ≤ d ∧ d < 5) : FV.A3 (FV.wo gA (pt Q d)) Q = DC.S (subsL 5 3) fun t => if inT Q t d = true then 1 else 0 := by
  rw [A3_five h]
  refine DC.S_congr fun t ht => ?_
  rw [subs53] at ht
  simp only [List.mem_cons, List.not_mem_nil, or_false] at ht
  rcases ht with rfl | rfl | rfl | rfl | rfl | rfl | rfl | rfl | rfl | rfl <;> exact (inT_wo nd (by rw [h]; decide) (by rw [h]; decide) (by rw [h]; decide) (by rw [h]; exact hd) (by decide) (by decide) (by decide)).symm
theorem cI_PC {Q : List Pt} (h : Q.length = 5) (nd : Q.Nodup) : cI Q = FV.PC gA Q := by
  unfold cI FV.PC
  rw [S_pts, h, DC.S_comm, S_rg]
  refine DC.S_congr fun d hd => ?_
  have := List.mem_range.mp hd
  rw [A3_in h nd (by omega)]
  rfl
/-! ### the inner points -/
def ddS (acc : List Int) (x : Int) : List Int := if acc.contains x then acc else acc ++ [x]
def dd (L : List Int) : List Int := L.foldl ddS []
theorem dd_gen : ∀ (L acc : List Int), acc.Nodup → (L.foldl ddS acc).Nodup ∧ ∀ x, x ∈ L.foldl ddS acc ↔ x ∈ acc ∨ x ∈ L
  | [], acc, h => ⟨h, fun x => by simp⟩
  | a :: r, acc, h => by
    by_cases c : a ∈ acc
    · have e : ddS acc a = acc := if_pos (List.contains_iff_mem.mpr c)
      obtain ⟨h1, h2⟩ := dd_gen r acc h
      rw [List.foldl_cons, e]
      refine ⟨h1, fun x => ?_⟩
      rw [h2, List.mem_cons]
      exact ⟨fun z => z.elim .inl fun y => .inr (.inr y), fun z => z.elim .inl fun y => y.elim (fun e => .inl (e ▸ c)) .inr⟩
    · have e : ddS acc a = acc ++ [a] := if_neg fun z => c (List.contains_iff_mem.mp z)
      have nd : (acc ++ [a]).Nodup := by
        rw [List.nodup_append]
        exact ⟨h, by simp, fun x hx y hy => by simp at hy; subst hy; exact fun z => c (z ▸ hx)⟩
      obtain ⟨h1, h2⟩ := dd_gen r (acc ++ [a]) nd
      rw [List.foldl_cons, e]
      refine ⟨h1, fun x => ?_⟩
      rw [h2, List.mem_append, List.mem_singleton, List.mem_cons]
      exact ⟨fun z => z.elim (fun y => y.elim .inl fun w => .inr (.inl w)) fun y => .inr (.inr y), fun z => z.elim (fun y => .inl (.inl y)) fun y => y.elim (fun w => .inl (.inr w)) .inr⟩
theorem card_S {F M : List Int} (nf : F.Nodup) (nm : M.Nodup) (h : ∀ x ∈ M, x ∈ F) : M.length = DC.S F fun d => if d ∈ M then 1 else 0 := by
  rw [← DC.S_one]
  have e : DC.S M (fun _ => 1) = DC.S M fun m => DC.S F fun d => if d = m then 1 else 0 := DC.S_congr fun m hm => (DC.S_point nf (h m hm) fun _ => 1).symm
  rw [e, DC.S_comm]
  refine DC.S_congr fun d _ => ?_
  by_cases hm : d ∈ M
  · rw [if_pos hm]
    refine Eq.trans (DC.S_congr fun m _ => ?_) (DC.S_point nm hm fun _ => 1)
    by_cases z : d = m
    · rw [if_pos z, if_pos z.symm]
    · rw [if_neg z, if_neg fun y => z y.symm]
  · rw [if_neg hm]
    exact Eq.trans (DC.S_congr (g := fun _ => 0) fun m hmm => if_neg fun (z : d = m) => hm (z ▸ hmm)) (DC.S_zero _)
theorem S_ne {α : Type} {xs : List α} {f : α → Nat} : DC.S xs f ≠ 0 ↔ ∃ x ∈ xs, f x ≠ 0 := by
  induction xs with
  | nil => simp [DC.S]
  | cons a r ih =>
    rw [DC.S_cons]
    constructor
    · intro h
      by_cases z : f a = 0
      · obtain ⟨x, hx, hf⟩ := ih.mp (by omega)
        exact ⟨x, List.mem_cons_of_mem _ hx, hf⟩
      · exact ⟨a, List.mem_cons_self, z⟩
    · rintro ⟨x, hx, hf⟩
      rcases List.mem_cons.mp hx with rfl | y
      · omega
      · have := ih.mpr ⟨x, y, hf⟩
        omega
theorem held_len {pts : List Pt} {F : List Int} (o : OkF pts.length F) (nd : (subP pts F).Nodup) : (dd (((prsI pts).filter (selP F)).map (·.2))).length = FV.HC gA (subP pts F) := by
  have hl : (subP pts F).length = 5 := by
    unfold subP
    rw [List.length_map, o.len]
  obtain ⟨n1, m1⟩ := dd_gen (((prsI pts).filter (selP F)).map (·.2)) [] List.nodup_nil
  rw [card_S o.nd (M := dd _) n1 fun x hx => ?_]
  · unfold FV.HC
    rw [S_pts, hl]
    have eF : DC.S F (fun d => if d ∈ dd (((prsI pts).filter (selP F)).map (·.2)) then 1 else 0) = DC.S ((rg 0 5).map (fi F)) fun d => if d ∈ dd (((prsI pts).filter (selP F)).map (·.2)) then 1 else 0 := by rw [fi_map o.len]
    rw [eF, S_map, S_rg]
    refine DC.S_congr fun d hd => ?_
    have hd2 := List.mem_range.mp hd
    rw [A3_in hl nd (d := (d : Int)) (by omega)]
    have key : fi F d ∈ dd (((prsI pts).filter (selP F)).map (·.2)) ↔ (DC.S (subsL 5 3) fun t => if inT (subP pts F) t d = true then 1 else 0) ≠ 0 := by
      rw [S_ne]
      unfold dd
      rw [m1]
      simp only [List.not_mem_nil, false_or, List.mem_map, List.mem_filter]
      constructor
      · rintro ⟨⟨t, x⟩, ⟨hx, hs⟩, e⟩
        simp only at e
        subst e
        unfold prsI at hx
        obtain ⟨t2, ht2, hx2⟩ := List.mem_flatMap.mp hx
        obtain ⟨x2, hx3, e2⟩ := List.mem_map.mp hx2
        cases e2
        obtain ⟨_, hin⟩ := List.mem_filter.mp hx3
        unfold selP at hs
        rw [Bool.and_eq_true] at hs
        have hf : t ∈ (subsL pts.length 3).filter fun t => t.all fun k => F.contains k := List.mem_filter.mpr ⟨ht2, hs.2⟩
        rw [o.t3] at hf
        obtain ⟨u, hu, rfl⟩ := List.mem_map.mp hf
        have hu2 : ∀ x ∈ u, 0 ≤ x ∧ x < F.length := fun x hx => by
          have := List.all_eq_true.mp (List.all_eq_true.mp subs5_in u hu) x hx
          rw [o.len]
          simpa using this
        rw [inT_fi o.nd hu2 (by rw [o.len]; omega)] at hin
        exact ⟨u, hu, by rw [if_pos hin]; decide⟩
      · rintro ⟨u, hu, hne⟩
        have hu2 : ∀ x ∈ u, 0 ≤ x ∧ x < F.length := fun x hx => by
          have := List.all_eq_true.mp (List.all_eq_true.mp subs5_in u hu) x hx
          rw [o.len]
          simpa using this
        have hin : inT (subP pts F) u d = true := by
          by_cases z : inT (subP pts F) u d = true
          · exact z
          · rw [if_neg z] at hne
            exact absurd rfl hne
        rw [← inT_fi o.nd hu2 (by rw [o.len]; omega)] at hin
        have hf : u.map (fi F) ∈ (subsL pts.length 3).filter fun t => t.all fun k => F.contains k := by
          rw [o.t3]
          exact List.mem_map.mpr ⟨u, hu, rfl⟩
        obtain ⟨h1, h2⟩ := List.mem_filter.mp hf
        have hm : fi F d ∈ (rg 0 pts.length).filter fun d => F.contains d := by
          rw [o.d1, ← fi_map o.len]
          exact List.mem_map.mpr ⟨d, mem_rg (by omega) (by omega), by rw [fi_map o.len]⟩
        obtain ⟨h3, h4⟩ := List.mem_filter.mp hm
        refine ⟨(u.map (fi F), fi F d), ⟨List.mem_flatMap.mpr ⟨_, h1, List.mem_map.mpr ⟨fi F d, List.mem_filter.mpr ⟨h3, hin⟩, rfl⟩⟩, ?_⟩, rfl⟩
        unfold selP
        rw [h4, h2]
        rfl
    by_cases z : (DC.S (subsL 5 3) fun t => if inT (subP pts F) t d = true then 1 else 0) = 0
    · rw [if_pos z, if_neg fun y => key.mp y z]
    · rw [if_neg z, if_pos (key.mpr z)]
  · unfold dd at hx
    rw [m1] at hx
    simp only [List.not_mem_nil, false_or, List.mem_map, List.mem_filter] at hx
    obtain ⟨y, ⟨_, hs⟩, rfl⟩ := hx
    unfold selP at hs
    rw [Bool.and_eq_true] at hs
    exact List.contains_iff_mem.mp hs.1
end K12

namespace K12
open PySem PySem.Spec PyProof.Rows L2 Evl EB PySem.W
/-! ### five points: what their turns keep -/
theorem aff4 {x y z w : Int} (hx : x ≠ 0) (hy : y ≠ 0) (hz : z ≠ 0) (hw : w ≠ 0) (h : x - y + z - w = 0) : (!((decide (0 < x) && !decide (0 < y) && decide (0 < z) && !decide (0 < w)) || (!(decide (0 < x)) && !(!decide (0 < y)) && !(decide (0 < z)) && !(!decide (0 < w))))) = true := by
  by_cases a : 0 < x <;> by_cases b : 0 < y <;> by_cases c : 0 < z <;> by_cases d : 0 < w <;> simp [a, b, c, d] <;> omega
theorem msign {x y : Int} (hx : x ≠ 0) (hy : y ≠ 0) : (decide (0 < x) == decide (0 < y)) = decide (0 < x * y) := by
  by_cases a : 0 < x <;> by_cases b : 0 < y
  · simp [a, b, Int.mul_pos a b]
  · have : x * y < 0 := Int.mul_neg_of_pos_of_neg a (by omega)
    have : ¬ 0 < x * y := by omega
    simp [a, b, this]
  · have : x * y < 0 := Int.mul_neg_of_neg_of_pos (by omega) b
    have : ¬ 0 < x * y := by omega
    simp [a, b, this]
  · have : 0 < x * y := Int.mul_pos_of_neg_of_neg (by omega) (by omega)
    simp [a, b, this]
theorem gp6 {x1 y1 x2 y2 x3 y3 : Int} (a1 : x1 ≠ 0) (b1 : y1 ≠ 0) (a2 : x2 ≠ 0) (b2 : y2 ≠ 0) (a3 : x3 ≠ 0) (b3 : y3 ≠ 0) (h : x1 * y1 - x2 * y2 + x3 * y3 = 0) :
    (!(((decide (0 < x1) == decide (0 < y1)) && !(decide (0 < x2) == decide (0 < y2)) && (decide (0 < x3) == decide (0 < y3))) || (!(decide (0 < x1) == decide (0 < y1)) && !(!(decide (0 < x2) == decide (0 < y2))) && !(decide (0 < x3) == decide (0 < y3))))) = true := by
  rw [msign a1 b1, msign a2 b2, msign a3 b3]
  have n1 := Int.mul_ne_zero a1 b1
  have n2 := Int.mul_ne_zero a2 b2
  have n3 := Int.mul_ne_zero a3 b3
  generalize x1 * y1 = p at *
  generalize x2 * y2 = q at *
  generalize x3 * y3 = r at *
  by_cases a : 0 < p <;> by_cases b : 0 < q <;> by_cases c : 0 < r <;> simp [a, b, c] <;> omega
theorem area4 (a b c d : Pt) : area b c d - area a c d + area a b d - area a b c = 0 := by
  unfold area
  grind
theorem area6 (a b c d e : Pt) : area a b c * area a d e - area a b d * area a c e + area a b e * area a c d = 0 := by
  unfold area
  grind
theorem Gp.tn {Q : List Pt} (g : Gp Q) : FV.Tn gA Q where
  l1 := g.ori.l1
  l2 := g.ori.l2
  cy := fun p q r => by
    unfold gA
    rw [area_ro]
  sw := g.ori.op
theorem gp_cons {q0 q1 q2 q3 q4 : Pt} (g : Gp [q0, q1, q2, q3, q4]) : FV.cons (gA q0 q1 q2) (gA q0 q1 q3) (gA q0 q1 q4) (gA q0 q2 q3) (gA q0 q2 q4) (gA q0 q3 q4) (gA q1 q2 q3) (gA q1 q2 q4) (gA q1 q3 q4) (gA q2 q3 q4) = true := by
  have t := g.tn
  have ne := List.pairwise_iff_getElem.mp (List.nodup_iff_pairwise_ne.mp g.nd)
  have n01 : q0 ≠ q1 := ne 0 1 (by simp) (by simp) (by decide)
  have n10 : q1 ≠ q0 := fun z => n01 z.symm
  have n02 : q0 ≠ q2 := ne 0 2 (by simp) (by simp) (by decide)
  have n20 : q2 ≠ q0 := fun z => n02 z.symm
  have n03 : q0 ≠ q3 := ne 0 3 (by simp) (by simp) (by decide)
  have n30 : q3 ≠ q0 := fun z => n03 z.symm
  have n04 : q0 ≠ q4 := ne 0 4 (by simp) (by simp) (by decide)
  have n40 : q4 ≠ q0 := fun z => n04 z.symm
  have n12 : q1 ≠ q2 := ne 1 2 (by simp) (by simp) (by decide)
  have n21 : q2 ≠ q1 := fun z => n12 z.symm
  have n13 : q1 ≠ q3 := ne 1 3 (by simp) (by simp) (by decide)
  have n31 : q3 ≠ q1 := fun z => n13 z.symm
  have n14 : q1 ≠ q4 := ne 1 4 (by simp) (by simp) (by decide)
  have n41 : q4 ≠ q1 := fun z => n14 z.symm
  have n23 : q2 ≠ q3 := ne 2 3 (by simp) (by simp) (by decide)
  have n32 : q3 ≠ q2 := fun z => n23 z.symm
  have n24 : q2 ≠ q4 := ne 2 4 (by simp) (by simp) (by decide)
  have n42 : q4 ≠ q2 := fun z => n24 z.symm
  have n34 : q3 ≠ q4 := ne 3 4 (by simp) (by simp) (by decide)
  have n43 : q4 ≠ q3 := fun z => n34 z.symm
  have m0 : q0 ∈ [q0, q1, q2, q3, q4] := by simp
  have m1 : q1 ∈ [q0, q1, q2, q3, q4] := by simp
  have m2 : q2 ∈ [q0, q1, q2, q3, q4] := by simp
  have m3 : q3 ∈ [q0, q1, q2, q3, q4] := by simp
  have m4 : q4 ∈ [q0, q1, q2, q3, q4] := by simp
  have z012 : area q0 q1 q2 ≠ 0 := g.ne q0 q1 q2 m0 m1 m2 n01 n20 n21
  have z013 : area q0 q1 q3 ≠ 0 := g.ne q0 q1 q3 m0 m1 m3 n01 n30 n31
  have z014 : area q0 q1 q4 ≠ 0 := g.ne q0 q1 q4 m0 m1 m4 n01 n40 n41
  have z021 : area q0 q2 q1 ≠ 0 := g.ne q0 q2 q1 m0 m2 m1 n02 n10 n12
  have z023 : area q0 q2 q3 ≠ 0 := g.ne q0 q2 q3 m0 m2 m3 n02 n30 n32
  have z024 : area q0 q2 q4 ≠ 0 := g.ne q0 q2 q4 m0 m2 m4 n02 n40 n42
  have z031 : area q0 q3 q1 ≠ 0 := g.ne q0 q3 q1 m0 m3 m1 n03 n10 n13
  have z032 : area q0 q3 q2 ≠ 0 := g.ne q0 q3 q2 m0 m3 m2 n03 n20 n23
  have z034 : area q0 q3 q4 ≠ 0 := g.ne q0 q3 q4 m0 m3 m4 n03 n40 n43
  have z041 : area q0 q4 q1 ≠ 0 := g.ne q0 q4 q1 m0 m4 m1 n04 n10 n14
  have z042 : area q0 q4 q2 ≠ 0 := g.ne q0 q4 q2 m0 m4 m2 n04 n20 n24
  have z043 : area q0 q4 q3 ≠ 0 := g.ne q0 q4 q3 m0 m4 m3 n04 n30 n34
  have z102 : area q1 q0 q2 ≠ 0 := g.ne q1 q0 q2 m1 m0 m2 n10 n21 n20
  have z103 : area q1 q0 q3 ≠ 0 := g.ne q1 q0 q3 m1 m0 m3 n10 n31 n30
  have z104 : area q1 q0 q4 ≠ 0 := g.ne q1 q0 q4 m1 m0 m4 n10 n41 n40
  have z120 : area q1 q2 q0 ≠ 0 := g.ne q1 q2 q0 m1 m2 m0 n12 n01 n02
  have z123 : area q1 q2 q3 ≠ 0 := g.ne q1 q2 q3 m1 m2 m3 n12 n31 n32
  have z124 : area q1 q2 q4 ≠ 0 := g.ne q1 q2 q4 m1 m2 m4 n12 n41 n42
  have z130 : area q1 q3 q0 ≠ 0 := g.ne q1 q3 q0 m1 m3 m0 n13 n01 n03
  have z132 : area q1 q3 q2 ≠ 0 := g.ne q1 q3 q2 m1 m3 m2 n13 n21 n23
  have z134 : area q1 q3 q4 ≠ 0 := g.ne q1 q3 q4 m1 m3 m4 n13 n41 n43
  have z140 : area q1 q4 q0 ≠ 0 := g.ne q1 q4 q0 m1 m4 m0 n14 n01 n04
  have z142 : area q1 q4 q2 ≠ 0 := g.ne q1 q4 q2 m1 m4 m2 n14 n21 n24
  have z143 : area q1 q4 q3 ≠ 0 := g.ne q1 q4 q3 m1 m4 m3 n14 n31 n34
  have z201 : area q2 q0 q1 ≠ 0 := g.ne q2 q0 q1 m2 m0 m1 n20 n12 n10
  have z203 : area q2 q0 q3 ≠ 0 := g.ne q2 q0 q3 m2 m0 m3 n20 n32 n30
  have z204 : area q2 q0 q4 ≠ 0 := g.ne q2 q0 q4 m2 m0 m4 n20 n42 n40
  have z210 : area q2 q1 q0 ≠ 0 := g.ne q2 q1 q0 m2 m1 m0 n21 n02 n01
  have z213 : area q2 q1 q3 ≠ 0 := g.ne q2 q1 q3 m2 m1 m3 n21 n32 n31
  have z214 : area q2 q1 q4 ≠ 0 := g.ne q2 q1 q4 m2 m1 m4 n21 n42 n41
  have z230 : area q2 q3 q0 ≠ 0 := g.ne q2 q3 q0 m2 m3 m0 n23 n02 n03
  have z231 : area q2 q3 q1 ≠ 0 := g.ne q2 q3 q1 m2 m3 m1 n23 n12 n13
  have z234 : area q2 q3 q4 ≠ 0 := g.ne q2 q3 q4 m2 m3 m4 n23 n42 n43
  have z240 : area q2 q4 q0 ≠ 0 := g.ne q2 q4 q0 m2 m4 m0 n24 n02 n04
  have z241 : area q2 q4 q1 ≠ 0 := g.ne q2 q4 q1 m2 m4 m1 n24 n12 n14
  have z243 : area q2 q4 q3 ≠ 0 := g.ne q2 q4 q3 m2 m4 m3 n24 n32 n34
  have z301 : area q3 q0 q1 ≠ 0 := g.ne q3 q0 q1 m3 m0 m1 n30 n13 n10
  have z302 : area q3 q0 q2 ≠ 0 := g.ne q3 q0 q2 m3 m0 m2 n30 n23 n20
  have z304 : area q3 q0 q4 ≠ 0 := g.ne q3 q0 q4 m3 m0 m4 n30 n43 n40
  have z310 : area q3 q1 q0 ≠ 0 := g.ne q3 q1 q0 m3 m1 m0 n31 n03 n01
  have z312 : area q3 q1 q2 ≠ 0 := g.ne q3 q1 q2 m3 m1 m2 n31 n23 n21
  have z314 : area q3 q1 q4 ≠ 0 := g.ne q3 q1 q4 m3 m1 m4 n31 n43 n41
  have z320 : area q3 q2 q0 ≠ 0 := g.ne q3 q2 q0 m3 m2 m0 n32 n03 n02
  have z321 : area q3 q2 q1 ≠ 0 := g.ne q3 q2 q1 m3 m2 m1 n32 n13 n12
  have z324 : area q3 q2 q4 ≠ 0 := g.ne q3 q2 q4 m3 m2 m4 n32 n43 n42
  have z340 : area q3 q4 q0 ≠ 0 := g.ne q3 q4 q0 m3 m4 m0 n34 n03 n04
  have z341 : area q3 q4 q1 ≠ 0 := g.ne q3 q4 q1 m3 m4 m1 n34 n13 n14
  have z342 : area q3 q4 q2 ≠ 0 := g.ne q3 q4 q2 m3 m4 m2 n34 n23 n24
  have z401 : area q4 q0 q1 ≠ 0 := g.ne q4 q0 q1 m4 m0 m1 n40 n14 n10
  have z402 : area q4 q0 q2 ≠ 0 := g.ne q4 q0 q2 m4 m0 m2 n40 n24 n20
  have z403 : area q4 q0 q3 ≠ 0 := g.ne q4 q0 q3 m4 m0 m3 n40 n34 n30
  have z410 : area q4 q1 q0 ≠ 0 := g.ne q4 q1 q0 m4 m1 m0 n41 n04 n01
  have z412 : area q4 q1 q2 ≠ 0 := g.ne q4 q1 q2 m4 m1 m2 n41 n24 n21
  have z413 : area q4 q1 q3 ≠ 0 := g.ne q4 q1 q3 m4 m1 m3 n41 n34 n31
  have z420 : area q4 q2 q0 ≠ 0 := g.ne q4 q2 q0 m4 m2 m0 n42 n04 n02
  have z421 : area q4 q2 q1 ≠ 0 := g.ne q4 q2 q1 m4 m2 m1 n42 n14 n12
  have z423 : area q4 q2 q3 ≠ 0 := g.ne q4 q2 q3 m4 m2 m3 n42 n34 n32
  have z430 : area q4 q3 q0 ≠ 0 := g.ne q4 q3 q0 m4 m3 m0 n43 n04 n03
  have z431 : area q4 q3 q1 ≠ 0 := g.ne q4 q3 q1 m4 m3 m1 n43 n14 n13
  have z432 : area q4 q3 q2 ≠ 0 := g.ne q4 q3 q2 m4 m3 m2 n43 n24 n23
  have f120 : gA q1 q2 q0 = gA q0 q1 q2 := t.cy q0 q1 q2
  have f201 : gA q2 q0 q1 = gA q0 q1 q2 := (t.cy q1 q2 q0).trans (t.cy q0 q1 q2)
  have f102 : gA q1 q0 q2 = !gA q0 q1 q2 := t.sw q0 q1 q2 m0 m1 m2 n01 n20 n21
  have f021 : gA q0 q2 q1 = !gA q0 q1 q2 := (t.cy q1 q0 q2).trans f102
  have f210 : gA q2 q1 q0 = !gA q0 q1 q2 := (t.cy q0 q2 q1).trans f021
  have f130 : gA q1 q3 q0 = gA q0 q1 q3 := t.cy q0 q1 q3
  have f301 : gA q3 q0 q1 = gA q0 q1 q3 := (t.cy q1 q3 q0).trans (t.cy q0 q1 q3)
  have f103 : gA q1 q0 q3 = !gA q0 q1 q3 := t.sw q0 q1 q3 m0 m1 m3 n01 n30 n31
  have f031 : gA q0 q3 q1 = !gA q0 q1 q3 := (t.cy q1 q0 q3).trans f103
  have f310 : gA q3 q1 q0 = !gA q0 q1 q3 := (t.cy q0 q3 q1).trans f031
  have f140 : gA q1 q4 q0 = gA q0 q1 q4 := t.cy q0 q1 q4
  have f401 : gA q4 q0 q1 = gA q0 q1 q4 := (t.cy q1 q4 q0).trans (t.cy q0 q1 q4)
  have f104 : gA q1 q0 q4 = !gA q0 q1 q4 := t.sw q0 q1 q4 m0 m1 m4 n01 n40 n41
  have f041 : gA q0 q4 q1 = !gA q0 q1 q4 := (t.cy q1 q0 q4).trans f104
  have f410 : gA q4 q1 q0 = !gA q0 q1 q4 := (t.cy q0 q4 q1).trans f041
  have f230 : gA q2 q3 q0 = gA q0 q2 q3 := t.cy q0 q2 q3
  have f302 : gA q3 q0 q2 = gA q0 q2 q3 := (t.cy q2 q3 q0).trans (t.cy q0 q2 q3)
  have f203 : gA q2 q0 q3 = !gA q0 q2 q3 := t.sw q0 q2 q3 m0 m2 m3 n02 n30 n32
  have f032 : gA q0 q3 q2 = !gA q0 q2 q3 := (t.cy q2 q0 q3).trans f203
  have f320 : gA q3 q2 q0 = !gA q0 q2 q3 := (t.cy q0 q3 q2).trans f032
  have f240 : gA q2 q4 q0 = gA q0 q2 q4 := t.cy q0 q2 q4
  have f402 : gA q4 q0 q2 = gA q0 q2 q4 := (t.cy q2 q4 q0).trans (t.cy q0 q2 q4)
  have f204 : gA q2 q0 q4 = !gA q0 q2 q4 := t.sw q0 q2 q4 m0 m2 m4 n02 n40 n42
  have f042 : gA q0 q4 q2 = !gA q0 q2 q4 := (t.cy q2 q0 q4).trans f204
  have f420 : gA q4 q2 q0 = !gA q0 q2 q4 := (t.cy q0 q4 q2).trans f042
  have f340 : gA q3 q4 q0 = gA q0 q3 q4 := t.cy q0 q3 q4
  have f403 : gA q4 q0 q3 = gA q0 q3 q4 := (t.cy q3 q4 q0).trans (t.cy q0 q3 q4)
  have f304 : gA q3 q0 q4 = !gA q0 q3 q4 := t.sw q0 q3 q4 m0 m3 m4 n03 n40 n43
  have f043 : gA q0 q4 q3 = !gA q0 q3 q4 := (t.cy q3 q0 q4).trans f304
  have f430 : gA q4 q3 q0 = !gA q0 q3 q4 := (t.cy q0 q4 q3).trans f043
  have f231 : gA q2 q3 q1 = gA q1 q2 q3 := t.cy q1 q2 q3
  have f312 : gA q3 q1 q2 = gA q1 q2 q3 := (t.cy q2 q3 q1).trans (t.cy q1 q2 q3)
  have f213 : gA q2 q1 q3 = !gA q1 q2 q3 := t.sw q1 q2 q3 m1 m2 m3 n12 n31 n32
  have f132 : gA q1 q3 q2 = !gA q1 q2 q3 := (t.cy q2 q1 q3).trans f213
  have f321 : gA q3 q2 q1 = !gA q1 q2 q3 := (t.cy q1 q3 q2).trans f132
  have f241 : gA q2 q4 q1 = gA q1 q2 q4 := t.cy q1 q2 q4
  have f412 : gA q4 q1 q2 = gA q1 q2 q4 := (t.cy q2 q4 q1).trans (t.cy q1 q2 q4)
  have f214 : gA q2 q1 q4 = !gA q1 q2 q4 := t.sw q1 q2 q4 m1 m2 m4 n12 n41 n42
  have f142 : gA q1 q4 q2 = !gA q1 q2 q4 := (t.cy q2 q1 q4).trans f214
  have f421 : gA q4 q2 q1 = !gA q1 q2 q4 := (t.cy q1 q4 q2).trans f142
  have f341 : gA q3 q4 q1 = gA q1 q3 q4 := t.cy q1 q3 q4
  have f413 : gA q4 q1 q3 = gA q1 q3 q4 := (t.cy q3 q4 q1).trans (t.cy q1 q3 q4)
  have f314 : gA q3 q1 q4 = !gA q1 q3 q4 := t.sw q1 q3 q4 m1 m3 m4 n13 n41 n43
  have f143 : gA q1 q4 q3 = !gA q1 q3 q4 := (t.cy q3 q1 q4).trans f314
  have f431 : gA q4 q3 q1 = !gA q1 q3 q4 := (t.cy q1 q4 q3).trans f143
  have f342 : gA q3 q4 q2 = gA q2 q3 q4 := t.cy q2 q3 q4
  have f423 : gA q4 q2 q3 = gA q2 q3 q4 := (t.cy q3 q4 q2).trans (t.cy q2 q3 q4)
  have f324 : gA q3 q2 q4 = !gA q2 q3 q4 := t.sw q2 q3 q4 m2 m3 m4 n23 n42 n43
  have f243 : gA q2 q4 q3 = !gA q2 q3 q4 := (t.cy q3 q2 q4).trans f324
  have f432 : gA q4 q3 q2 = !gA q2 q3 q4 := (t.cy q2 q4 q3).trans f243
  have c0 : (!((gA q1 q2 q3 && !gA q0 q2 q3 && gA q0 q1 q3 && !gA q0 q1 q2) || (!(gA q1 q2 q3) && !(!gA q0 q2 q3) && !(gA q0 q1 q3) && !(!gA q0 q1 q2)))) = true := aff4 z123 z023 z013 z012 (area4 q0 q1 q2 q3)
  have c1 : (!((gA q1 q2 q4 && !gA q0 q2 q4 && gA q0 q1 q4 && !gA q0 q1 q2) || (!(gA q1 q2 q4) && !(!gA q0 q2 q4) && !(gA q0 q1 q4) && !(!gA q0 q1 q2)))) = true := aff4 z124 z024 z014 z012 (area4 q0 q1 q2 q4)
  have c2 : (!((gA q1 q3 q4 && !gA q0 q3 q4 && gA q0 q1 q4 && !gA q0 q1 q3) || (!(gA q1 q3 q4) && !(!gA q0 q3 q4) && !(gA q0 q1 q4) && !(!gA q0 q1 q3)))) = true := aff4 z134 z034 z014 z013 (area4 q0 q1 q3 q4)
  have c3 : (!((gA q2 q3 q4 && !gA q0 q3 q4 && gA q0 q2 q4 && !gA q0 q2 q3) || (!(gA q2 q3 q4) && !(!gA q0 q3 q4) && !(gA q0 q2 q4) && !(!gA q0 q2 q3)))) = true := aff4 z234 z034 z024 z023 (area4 q0 q2 q3 q4)
  have c4 : (!((gA q2 q3 q4 && !gA q1 q3 q4 && gA q1 q2 q4 && !gA q1 q2 q3) || (!(gA q2 q3 q4) && !(!gA q1 q3 q4) && !(gA q1 q2 q4) && !(!gA q1 q2 q3)))) = true := aff4 z234 z134 z124 z123 (area4 q1 q2 q3 q4)
  have c5 : (!(((gA q0 q1 q2 == gA q0 q3 q4) && !(gA q0 q1 q3 == gA q0 q2 q4) && (gA q0 q1 q4 == gA q0 q2 q3)) || (!(gA q0 q1 q2 == gA q0 q3 q4) && !(!(gA q0 q1 q3 == gA q0 q2 q4)) && !(gA q0 q1 q4 == gA q0 q2 q3)))) = true := gp6 z012 z034 z013 z024 z014 z023 (area6 q0 q1 q2 q3 q4)
  have c6 : (!(((gA q1 q0 q2 == gA q1 q3 q4) && !(gA q1 q0 q3 == gA q1 q2 q4) && (gA q1 q0 q4 == gA q1 q2 q3)) || (!(gA q1 q0 q2 == gA q1 q3 q4) && !(!(gA q1 q0 q3 == gA q1 q2 q4)) && !(gA q1 q0 q4 == gA q1 q2 q3)))) = true := gp6 z102 z134 z103 z124 z104 z123 (area6 q1 q0 q2 q3 q4)
  rw [f102, f103, f104] at c6
  have c7 : (!(((gA q2 q0 q1 == gA q2 q3 q4) && !(gA q2 q0 q3 == gA q2 q1 q4) && (gA q2 q0 q4 == gA q2 q1 q3)) || (!(gA q2 q0 q1 == gA q2 q3 q4) && !(!(gA q2 q0 q3 == gA q2 q1 q4)) && !(gA q2 q0 q4 == gA q2 q1 q3)))) = true := gp6 z201 z234 z203 z214 z204 z213 (area6 q2 q0 q1 q3 q4)
  rw [f201, f203, f214, f204, f213] at c7
  have c8 : (!(((gA q3 q0 q1 == gA q3 q2 q4) && !(gA q3 q0 q2 == gA q3 q1 q4) && (gA q3 q0 q4 == gA q3 q1 q2)) || (!(gA q3 q0 q1 == gA q3 q2 q4) && !(!(gA q3 q0 q2 == gA q3 q1 q4)) && !(gA q3 q0 q4 == gA q3 q1 q2)))) = true := gp6 z301 z324 z302 z314 z304 z312 (area6 q3 q0 q1 q2 q4)
  rw [f301, f324, f302, f314, f304, f312] at c8
  have c9 : (!(((gA q4 q0 q1 == gA q4 q2 q3) && !(gA q4 q0 q2 == gA q4 q1 q3) && (gA q4 q0 q3 == gA q4 q1 q2)) || (!(gA q4 q0 q1 == gA q4 q2 q3) && !(!(gA q4 q0 q2 == gA q4 q1 q3)) && !(gA q4 q0 q3 == gA q4 q1 q2)))) = true := gp6 z401 z423 z402 z413 z403 z412 (area6 q4 q0 q1 q2 q3)
  rw [f401, f423, f402, f413, f403, f412] at c9
  unfold FV.cons
  rw [c0, c1, c2, c3, c4, c5, c6, c7, c8, c9]
  rfl
theorem five_pts {Q : List Pt} (h : Q.length = 5) (g : Gp Q) : FV.PC gA Q = 2 * FV.HC gA Q ∧ DC.T Q gA 0 + FV.HC gA Q = 5 ∧ FV.HC gA Q ≤ 2 := by
  match Q, h, g with
  | [q0, q1, q2, q3, q4], _, g => exact FV.five g.tn g.nd (gp_cons g)
end K12

namespace K12
open PySem PySem.Spec PyProof.Rows L2 Evl EB PySem.W
/-! ### five of a floor's points, in any order -/
theorem Gp.five {pts : List Pt} (g : Gp pts) {F : List Int} (nd : F.Nodup) (rn : ∀ x ∈ F, 0 ≤ x ∧ x < pts.length) : Gp (subP pts F) := by
  refine ⟨?_, fun p q r hp hq hr => ?_⟩
  · unfold subP
    rw [List.nodup_iff_pairwise_ne, List.pairwise_map]
    refine List.Pairwise.imp_of_mem (fun {a b} ha hb (h : a ≠ b) z => ?_) (List.nodup_iff_pairwise_ne.mp nd)
    obtain ⟨i, rfl⟩ := Int.eq_ofNat_of_zero_le (rn a ha).1
    obtain ⟨j, rfl⟩ := Int.eq_ofNat_of_zero_le (rn b hb).1
    have hi := (rn _ ha).2
    have hj := (rn _ hb).2
    rw [pt_nat (by omega), pt_nat (by omega)] at z
    rcases Nat.lt_trichotomy i j with y | y | y
    · exact List.pairwise_iff_getElem.mp (List.nodup_iff_pairwise_ne.mp g.nd) i j (by omega) (by omega) y z
    · exact h (by omega)
    · exact List.pairwise_iff_getElem.mp (List.nodup_iff_pairwise_ne.mp g.nd) j i (by omega) (by omega) y z.symm
  · have mem : ∀ p, p ∈ subP pts F → p ∈ pts := fun p hp => by
      obtain ⟨x, hx, rfl⟩ := List.mem_map.mp hp
      exact pt_mem (rn x hx)
    exact g.ne p q r (mem p hp) (mem q hq) (mem r hr)
theorem rg_nodup2 (lo : Int) (n : Nat) : (rg lo n).Nodup := by
  unfold rg
  rw [List.nodup_iff_pairwise_ne, List.pairwise_map]
  exact List.Pairwise.imp (fun {a b : Nat} (h : a ≠ b) (z : lo + (a : Int) = lo + (b : Int)) => h (by omega)) (List.nodup_iff_pairwise_ne.mp (List.nodup_range (n := n)))
theorem badNos_nd2 {n : Nat} {ns : List Int} (nd : ns.Nodup) (h : ∀ x ∈ ns, isNo x n = true) : badNos n ns = none := List.findSome?_eq_none_iff.mpr fun k hk => by
  have hk2 := List.mem_range.mp hk
  unfold badNo
  rw [List.getElem?_eq_getElem hk2]
  dsimp only
  rw [h _ (List.getElem_mem hk2)]
  dsimp only
  have : (ns.take k).contains ns[k] = false := by
    rw [Bool.eq_false_iff]
    intro z
    have z2 := List.contains_iff_mem.mp z
    obtain ⟨j, hj, e⟩ := List.getElem_of_mem z2
    rw [List.length_take] at hj
    rw [List.getElem_take] at e
    exact List.pairwise_iff_getElem.mp (List.nodup_iff_pairwise_ne.mp nd) j k (by omega) hk2 (by omega) e
  rw [this]
structure Five (pts : List Pt) (ns F : List Int) : Prop where
  l8 : pts.length ≤ 9
  nr : ∀ p ∈ pts, near p
  gp : Gp pts
  bp : badPts pts = none
  mm : F ∈ subsL pts.length 5
  pm : ns.Perm F
theorem Five.ok {pts : List Pt} {ns F : List Int} (f : Five pts ns F) : OkF pts.length F := okF_of (by have := f.l8; omega) f.mm
theorem Five.sp {pts : List Pt} {ns F : List Int} (f : Five pts ns F) : (subP pts ns).Perm (subP pts F) := f.pm.map _
theorem selP_perm {ns F : List Int} (h : ns.Perm F) : selP ns = selP F := by
  have e : ∀ k : Int, ns.contains k = F.contains k := fun k => by
    rw [Bool.eq_iff_iff, List.contains_iff_mem, List.contains_iff_mem]
    exact h.mem_iff
  funext x
  unfold selP
  rw [e x.2]
  congr 2
  funext k
  exact e k
theorem Five.lenN {pts : List Pt} {ns F : List Int} (f : Five pts ns F) : ns.length = 5 := f.pm.length_eq.trans f.ok.len
theorem Five.gQ {pts : List Pt} {ns F : List Int} (f : Five pts ns F) : Gp (subP pts F) := f.gp.five f.ok.nd f.ok.rn
theorem Five.gN {pts : List Pt} {ns F : List Int} (f : Five pts ns F) : Gp (subP pts ns) := f.gp.five (f.pm.nodup_iff.mpr f.ok.nd) fun x hx => f.ok.rn x (f.pm.mem_iff.mp hx)
theorem Five.lQ {pts : List Pt} {ns F : List Int} (f : Five pts ns F) : (subP pts F).length = 5 := by
  unfold subP
  rw [List.length_map, f.ok.len]
theorem Five.lN {pts : List Pt} {ns F : List Int} (f : Five pts ns F) : (subP pts ns).length = 5 := by
  unfold subP
  rw [List.length_map, f.lenN]
theorem Five.only {pts : List Pt} {ns F : List Int} (f : Five pts ns F) : onlyE pts ns = none := by
  have h5 : 5 ≤ pts.length := by
    have hn := f.ok.nd
    have := card_S (rg_nodup2 0 pts.length) hn fun x hx => mem_rg (f.ok.rn x hx).1 (by have := (f.ok.rn x hx).2; omega)
    have le : (DC.S (rg 0 pts.length) fun d => if d ∈ F then 1 else 0) ≤ DC.S (rg 0 pts.length) fun _ => 1 := by
      generalize rg 0 pts.length = l
      induction l with
      | nil => exact Nat.le_refl _
      | cons a r ih =>
        rw [DC.S_cons, DC.S_cons]
        have : (if a ∈ F then 1 else 0) ≤ 1 := by by_cases z : a ∈ F <;> simp [z]
        omega
    rw [DC.S_one, rg_length, ← this, f.ok.len] at le
    exact le
  have e1 : inR 3 (ns.length : Nat) (pts.length : Nat) = true := by
    rw [f.lenN]
    unfold inR
    simp
    omega
  have e2 : badNos pts.length ns = none := badNos_nd2 (f.pm.nodup_iff.mpr f.ok.nd) fun x hx => by
    have := f.ok.rn x (f.pm.mem_iff.mp hx)
    unfold isNo
    simp [this]
  have e3 : floorE (subP pts ns) = none := by
    have b1 : inR 3 (subP pts ns).length 10 = true := by
      rw [f.lN]
      rfl
    have b2 : badPts (subP pts ns) = none := List.findSome?_eq_none_iff.mpr fun p hp => by
      obtain ⟨x, hx, rfl⟩ := List.mem_map.mp hp
      exact List.findSome?_eq_none_iff.mp f.bp _ (pt_mem (f.ok.rn x (f.pm.mem_iff.mp hx)))
    unfold floorE
    rw [b1, b2]
    exact gp_to f.gN (by rw [f.lN]; decide)
  unfold onlyE
  rw [e1, e2, e3]
  rfl
/-- what the law counts, and what the program tells, of five points -/
theorem Five.cf {pts : List Pt} {ns F : List Int} (f : Five pts ns F) : cfI (subP pts ns) = 5 - (((prsI pts).filter (selP ns)).length : Int) ∧ DC.T (subP pts ns) gA 0 + (dd (((prsI pts).filter (selP ns)).map (·.2))).length = 5 ∧ ((prsI pts).filter (selP ns)).length = 2 * (dd (((prsI pts).filter (selP ns)).map (·.2))).length ∧ (dd (((prsI pts).filter (selP ns)).map (·.2))).length ≤ 2 := by
  obtain ⟨h1, h2, h3⟩ := five_pts f.lQ f.gQ
  have s1 := sel_len f.ok
  have s2 := held_len f.ok f.gQ.nd
  rw [selP_perm f.pm, s1, s2, cI_PC f.lQ f.gQ.nd]
  refine ⟨?_, ?_, h1, h3⟩
  · unfold cfI
    rw [f.lN, prsI_cI, cI_PC f.lN f.gN.nd, FV.PC_perm f.gN.tn f.sp]
    rfl
  · rw [FV.T_perm f.sp]
    exact h2
def args__law_five_holds {K : PySem.W.Frag} {mg : Str → Option Value} (T : Tx K mg) : List Pt × List Int × List Int → List PV := fun a => [ob1 K T.a_Floor "points" (.tuple (a.1.map pD)), dv K (.list (a.2.1.map .int)), dv K (.list ((prsI a.1).map encP))]
def dom__law_five_holds : List Pt × List Int × List Int → Prop := fun a => Five a.1 a.2.1 a.2.2
def out__law_five_holds {K : PySem.W.Frag} {mg : Str → Option Value} (T : Tx K mg) : List Pt × List Int × List Int → Out := fun _ => .ok (dv K (.bool true))
theorem eqv_empty (l : List PyData) : PyData.eqv (.list l) (.list []) = l.isEmpty := by
  cases l <;> simp [PyData.eqv, PyData.eqvAll]
theorem all_filter (ns : List Int) : ∀ t : List Int, ((t.filter fun k => !ns.contains k).map PyData.int).isEmpty = t.all fun k => ns.contains k
  | [] => rfl
  | a :: r => by
    rw [List.filter_cons, List.all_cons]
    cases ns.contains a with
    | true =>
      simp only [Bool.not_true, Bool.false_eq_true, if_false, Bool.true_and]
      exact all_filter ns r
    | false => rfl
theorem ok__law_five_holds {P : Program} {w : World} {K : PySem.W.Frag} {mg : Str → Option Value} {base : Heap} (T : Tx K mg) : FnOk P w K mg base (L2.CX P w) 8 T.a__law_five_holds T.fd__law_five_holds ["floor", "numbers", "pairs"] (Prm K T.M (args__law_five_holds T) dom__law_five_holds (out__law_five_holds T)) := by
  refine T.F__law_five_holds.okX sc__law_five_holds (fun vs H Q E h => by obtain ⟨a, F, _, al, _⟩ := h; exact al.length) (fun cdv A outer s H vs Q E hr h => ?_)
  have tk : Takes (cxOf (L2.CX P w) P w K mg base N__law_five_holds "_law_five_holds" (defScope s__law_five_holds) T.a__law_five_holds cdv A outer s H E) (fun cls d _ H => E cls d H) := takes_of rfl rfl rfl rfl
  obtain ⟨a, F, fh, al, hd, th⟩ := h
  refine ⟨_, (pss_cons (ps_set (i := 3) sc__law_five_holds.nd rfl (by first | exact Or.inl rfl | exact Or.inr rfl) (pe_lst pa_nil))
      (pss_cons (ps_set (i := 4) sc__law_five_holds.nd rfl (by first | exact Or.inl rfl | exact Or.inr rfl) pe_int)
      (pss_cons (ps_for (passes_of rfl) rfl (pi_list (pv 2)) (pg_tup rfl (pgs_cons (pg_name (i := 5) sc__law_five_holds.nd rfl (by first | exact Or.inl rfl | exact Or.inr rfl)) (pgs_cons (pg_name (i := 6) sc__law_five_holds.nd rfl (by first | exact Or.inl rfl | exact Or.inr rfl)) pgs_nil))) (pss_one (ps_if (PW.pt (pw_and (pt_cmpR op_in_seq (pv 6) (pv 1) (by rfl)) (pw_and1 (pt_cmpR (op_eqD hr.units) (pe_lc (own := [("k", 7)]) (g := (gName 7)) (tt := (tTest (tOp (rIn K true) (tVar 7) (tVar 1)))) (te := (tVar 7)) rfl sc__law_five_holds.nd (pi_tup (pv 5)) (blkOk_by (N := N__law_five_holds) (sc := defScope s__law_five_holds) (own := [("k", 7)]) (by decide +kernel)) (fun _ _ _ _ _ => (pg_name (i := 7) sc__law_five_holds.nd rfl (by first | exact Or.inl rfl | exact Or.inr rfl))) (fun _ _ _ _ _ => by exact pts_one (pt_cmpR op_notIn_seq (pv 7) (pv 1) (by rfl))) (fun _ _ _ _ _ => by exact (pv 7))) (pe_lst pa_nil) (nomark _))))) (pss_cons (ps_set (i := 4) sc__law_five_holds.nd rfl (by first | exact Or.inl rfl | exact Or.inr rfl) (pe_op op_sub (pv 4) pe_int))
      (pss_one (ps_if (pt_cmpR op_notIn_seq (pv 6) (pv 3) (by rfl)) (pss_one (ps_expr (pe_bm PySem.F.plainAttrs_list PySem.F.slot_list_append PySem.F.type_list_append mt_append (pv 3) (pa_cons (pv 6) pa_nil)))) pss_nil))) pss_nil)))
      (pss_cons (ps_set (i := 8) sc__law_five_holds.nd rfl (by first | exact Or.inl rfl | exact Or.inr rfl) (pe_methW (pv 0) T.C_Floor T.m_Floor_only (ok_Floor_only T) (hr.mono (by decide)) (b_Floor_only T) (fun σ => passAt tk σ) (pa_cons (pv 1) pa_nil)))
      (pss_cons (ps_set (i := 9) sc__law_five_holds.nd rfl (by first | exact Or.inl rfl | exact Or.inr rfl) (pe_callS (ok_convex_fours T) (hr.mono (by decide)) (by rfl) T.g_convex_fours T.F_convex_fours.kp (b_convex_fours T) (fun σ => passAt tk σ) (pa_cons (pv 8) pa_nil)))
      (pss_cons (ps_if (PW.pt (pw_or (pt_not (pt_val (pe_callS (ok__law_whole T) (hr.mono (by decide)) (by rfl) T.g__law_whole T.F__law_whole.kp (b__law_whole T) (fun σ => passAt tk σ) (pa_cons (pv 9) pa_nil)))) (pw_or1 (pt_cmpR op_ne (pv 9) (pv 4) (nomark _))))) (pss_one (ps_ret pe_bl)) pss_nil)
      (pss_cons (ps_set (i := 10) sc__law_five_holds.nd rfl (by first | exact Or.inl rfl | exact Or.inr rfl) (pe_ix ix_list (pe_callS (ok_line_row T) (hr.mono (by decide)) (by rfl) T.g_line_row T.F_line_row.kp (b_line_row T) (fun σ => passAt tk σ) (pa_cons (pv 8) pa_nil)) pe_int (fun _ _ => rfl)))
      (pss_cons (ps_if (PW.pt (pw_or (pt_not (pt_val (pe_callS (ok__law_whole T) (hr.mono (by decide)) (by rfl) T.g__law_whole T.F__law_whole.kp (b__law_whole T) (fun σ => passAt tk σ) (pa_cons (pv 10) pa_nil)))) (pw_or1 (pt_cmpR op_ne (pv 10) (pe_op op_sub pe_int (pe_callB call_len_seq (by rfl) T.z_len PySem.boot_len (pa_cons (pv 3) pa_nil))) (nomark _))))) (pss_one (ps_ret pe_bl)) pss_nil)
      (pss_one (ps_ret (pe_and (pe_cmpR op_eq (pv 9) (pe_op op_sub (pe_op op_mul pe_int (pv 10)) pe_int) (nomark _)) (pe_one (pe_cmpR op_in_seq (pv 9) (pe_tup (pa_cons pe_int (pa_cons pe_int (pa_cons pe_int pa_nil)))) (by rfl)))))))))))))), ?_⟩
  obtain ⟨pts, ns, F0⟩ := a
  have f : Five pts ns F0 := hd
  obtain ⟨k1, k2, k3, k4⟩ := f.cf
  let W0 : WX := fun cls d _ H => E cls d H
  have hl10 : pts.length ≤ 10 := by have := f.l8; omega
  have plen := prsI_len hl10
  let fl := ob1 K T.a_Floor "points" (.tuple (pts.map pD))
  let nsd := dv K (.list (ns.map .int))
  let prd := dv K (.list ((prsI pts).map encP))
  let sel : Nat → List (List Int × Int) := fun i => ((prsI pts).take i).filter (selP ns)
  let hel : Nat → List Int := fun i => dd ((sel i).map (·.2))
  have ho : out__law_five_holds T (pts, ns, F0) = .ok (dv K (.bool true)) := rfl
  rw [ho] at th
  refine fin_ok (r := .rt (dv K (.bool true))) (jl_new fun D F1 H1 hD => ?_) (by exact rfl) fh al th
  let psA : Nat → Kn := fun i => [some fl, some nsd, some prd, some (xv (.ref D)), some (dv K (.int (5 - ((sel i).length : Int)))), none, none, none, none, none, none]
  refine jl_seq (jl_js (js_set (i := 4) (P := dv K (.int (5 - ((sel 0).length : Int)))) je_int)) (jl_seq (qs := psA (prsI pts).length) (es := (hel (prsI pts).length).map .int) (jl_is (jl_weak (jl_for (vs := [5, 6]) ((prsI pts).map encP) psA (fun i => (hel i).map .int) (ji_list (je_var (i := 2) rfl)) rfl rfl fun i d hi => ?_) (by rw [List.length_map]; exact Weak.rfl_ _)) (by rw [List.length_map])) (jl_tell (i := 3) rfl hD ?_))
  · have hlt : i < (prsI pts).length := by
      have := (List.getElem?_eq_some_iff.mp hi).1
      rw [List.length_map] at this
      exact this
    rw [List.getElem?_map, List.getElem?_eq_getElem hlt] at hi
    cases hi
    have stp : sel (i + 1) = sel i ++ if selP ns (prsI pts)[i] then [(prsI pts)[i]] else [] := filter_take_succ (List.getElem?_eq_getElem hlt)
    have hlen : (hel i).length ≤ 3000 := by
      have n1 := dd_gen ((sel i).map (·.2)) [] List.nodup_nil
      have : ∀ (L acc : List Int), (L.foldl ddS acc).length ≤ acc.length + L.length := fun L => by
        induction L with
        | nil => intro acc; simp
        | cons a r ih =>
          intro acc
          have h1 := ih (ddS acc a)
          have h2 : (ddS acc a).length ≤ acc.length + 1 := by
            unfold ddS
            by_cases z : acc.contains a = true
            · rw [if_pos z]; omega
            · rw [if_neg z, List.length_append]; simp
          rw [List.foldl_cons, List.length_cons]
          omega
      have h3 := this ((sel i).map (·.2)) []
      have h4 : (sel i).length ≤ ((prsI pts).take i).length := List.length_filter_le (selP ns) ((prsI pts).take i)
      rw [List.length_map] at h3
      rw [List.length_take] at h4
      show (dd ((sel i).map (·.2))).length ≤ 3000
      unfold dd
      simp only [List.length_nil] at h3
      omega
    have htm : (prsI pts)[i] ∈ prsI pts := List.getElem_mem hlt
    generalize (prsI pts)[i] = x at stp htm
    obtain ⟨t, d⟩ := x
    have ht3 : t.length ≤ 10 := by
      unfold prsI at htm
      obtain ⟨t2, ht2, hx2⟩ := List.mem_flatMap.mp htm
      obtain ⟨d2, _, e2⟩ := List.mem_map.mp hx2
      cases e2
      rw [subs_len ht2]
      decide
    refine ⟨_, jg_tup (ds := [tupI t, .int d]) (jgs_cons jg_name (jgs_cons jg_name jgs_nil)), ?_⟩
    let psB : Kn := [some fl, some nsd, some prd, some (xv (.ref D)), some (dv K (.int (5 - ((sel i).length : Int)))), some (dv K (tupI t)), some (dv K (.int d)), none, none, none, none]
    have tst : JT K T.M W0 (tAnd (tTest (tOp (rIn K false) (tVar 6) (tVar 1))) (tTest (tOp (rEqD K) (tLc (iTup K (tVar 5)) (gName 7) (tTest (tOp (rIn K true) (tVar 7) (tVar 1))) (tVar 7) [7]) (tLst tNil)))) psB (selP ns (t, d)) := by
      refine jt_is (jt_and (jt_test (je_inL (ns := ns) (je_var (i := 6) rfl) (je_var (i := 1) rfl))) fun _ => jt_test (je_eqD (je_lc (W' := W0) t .int (fun k => !ns.contains k) .int (ji_tup (je_var (i := 5) rfl)) (by omega) fun k hk => ⟨_, jg_name, jt_test (je_notInL (je_var (i := 7) rfl) (je_var (i := 1) rfl)), fun _ => je_var (i := 7) rfl⟩) (je_lst (ds := []) ja_nil) ((ok_lst (n := 0) (ok_ints _)).sh (by decide)) ((ok_lst (n := 0) (ds := []) fun _ h => by simp at h).sh (by decide)))) ?_
      unfold selP
      rw [eqv_empty]
      congr 1
      exact all_filter ns t
    refine jl_weak (qs := [some fl, some nsd, some prd, some (xv (.ref D)), some (dv K (.int (5 - ((sel (i + 1)).length : Int)))), some (dv K (tupI t)), some (dv K (.int d)), none, none, none, none]) (jl_if tst (fun hb => ?_) (fun hb => ?_)) ⟨.inr rfl, .inr rfl, .inr rfl, .inr rfl, .inr rfl, .inl rfl, .inl rfl, .inr rfl, .inr rfl, .inr rfl, .inr rfl, trivial⟩
    · rw [hb, if_pos rfl] at stp
      have hdd : hel (i + 1) = ddS (hel i) d := by
        show dd ((sel (i + 1)).map (·.2)) = _
        rw [stp, List.map_append]
        unfold dd
        rw [List.foldl_append]
        rfl
      refine jl_seq (jl_js (js_set (i := 4) (P := dv K (.int (5 - ((sel (i + 1)).length : Int)))) (je_is (je_sub (je_var (i := 4) rfl) je_int) ?_))) (jl_ifR (b := !(hel i).contains d) (i := 3) rfl (jt_test (je_notInL (je_var (i := 6) rfl) (je_var (i := 3) rfl))) (fun hc => ?_) (fun hc => ?_))
      · congr 1
        rw [stp, List.length_append]
        push_cast
        simp
        omega
      · have hc2 : (hel i).contains d = false := by simpa using hc
        refine jl_is (jl_app (i := 3) rfl hD (ja_cons (je_var (i := 6) rfl) ja_nil) (by rw [List.length_map]; omega)) ?_
        rw [hdd]
        unfold ddS
        rw [hc2, if_neg (by decide), List.map_append]
        rfl
      · have hc2 : (hel i).contains d = true := by simpa using hc
        refine jl_is (jl_js js_next) ?_
        rw [hdd]
        unfold ddS
        rw [hc2, if_pos rfl]
    · rw [hb, if_neg (by decide), List.append_nil] at stp
      refine jl_is (jl_js (js_pre js_next ?_)) ?_
      · show Weak psB _
        unfold psB
        rw [stp]
        exact Weak.rfl_ _
      · show (hel i).map PyData.int = (dd ((sel (i + 1)).map (·.2))).map PyData.int
        rw [stp]
  · have eall : sel (prsI pts).length = (prsI pts).filter (selP ns) := by
      show ((prsI pts).take (prsI pts).length).filter _ = _
      rw [List.take_length]
    have ehel : hel (prsI pts).length = dd (((prsI pts).filter (selP ns)).map (·.2)) := by
      show dd ((sel (prsI pts).length).map (·.2)) = _
      rw [eall]
    let psC : Kn := [some fl, some nsd, some prd, some (lv K ((dd (((prsI pts).filter (selP ns)).map (·.2))).map .int)), some (dv K (.int (5 - ((((prsI pts).filter (selP ns)).length : Int))))), none, none, none, none, none, none]
    have e0 : (psA (prsI pts).length).set 3 (some (lv K ((hel (prsI pts).length).map .int))) = psC := by
      show [some fl, some nsd, some prd, some (lv K ((hel (prsI pts).length).map .int)), some (dv K (.int (5 - ((sel (prsI pts).length).length : Int)))), none, none, none, none, none, none] = psC
      rw [ehel, eall]
    rw [e0]
    let S0 := (prsI pts).filter (selP ns)
    let M := dd (S0.map (·.2))
    have k2 : DC.T (subP pts ns) gA 0 + M.length = 5 := k2
    have k3 : S0.length = 2 * M.length := k3
    have k4 : M.length ≤ 2 := k4
    have hm := je_meth (K := K) (M := T.M) (W := W0) (ps := psC) (args := args_Floor_only T) (dom := dom_Floor_only) (out := out_Floor_only T) (C := T.a_Floor) (m := "only") (f := "points") (pts, true, ns) (je_var (i := 0) rfl) (by decide) _ (ja_cons (je_var (i := 1) rfl) ja_nil) rfl ⟨hl10, by show ns.length ≤ 1000; rw [f.lenN]; decide⟩
    let f2 := ob1 K T.a_Floor "points" (.tuple ((subP pts ns).map pD))
    have eo : out_Floor_only T (pts, true, ns) = .ok f2 := by
      unfold out_Floor_only
      dsimp only
      rw [f.only]
      rfl
    rw [eo] at hm
    have nrS : ∀ p ∈ subP pts ns, near p := fun p hp => by
      obtain ⟨x, hx, rfl⟩ := List.mem_map.mp hp
      exact near_pt f.nr _
    have l5 := f.lN
    have hrow : JD K T.M W0 (tOp (rIxL K) (tCallS (PrmN K (args_line_row T) dom_line_row out_line_row) (WE W0) (tCons (tVar 8) tNil)) (tC (.int 0))) (psC.set 8 (some f2) |>.set 9 (some (dv K (.int (cfI (subP pts ns)))))) (.int (DC.T (subP pts ns) gA 0 : Nat)) := by
      refine je_ixL (ds := rowP (subP pts ns)) (jn_told (jn_call (M := T.M) (W := W0) (args := args_line_row T) (dom := dom_line_row) (out := out_line_row) (subP pts ns) (ja_cons (je_var (i := 8) rfl) ja_nil) ⟨⟨by omega, nrS⟩, by omega⟩)) je_int ?_
      rw [rowP_eq f.gN.nd, l5]
      exact atI_nat (j := 0) rfl
    have whole : ∀ (ps : Kn) (i : Nat) (v : Int), ps[i]? = some (some (dv K (.int v))) → JD K T.M W0 (tCallS (Prm K T.M (args__law_whole T) dom__law_whole (out__law_whole T)) (WE W0) (tCons (tVar i) tNil)) ps (.bool true) := fun ps i v h => je_call (args := args__law_whole T) (dom := dom__law_whole) (out := out__law_whole T) v (ja_cons (je_var (i := i) h) ja_nil) trivial
    have c1 : cfI (subP pts ns) = 5 - (S0.length : Int) := k1
    refine js_seq (js_set (i := 8) hm) (js_seq (js_set (i := 9) (je_call (args := args_convex_fours T) (dom := dom_convex_fours) (out := out_convex_fours T) (subP pts ns) (ja_cons (je_var (i := 8) rfl) ja_nil) ⟨by omega, nrS⟩))
      (js_seq (js_if (b := false) (jt_is (jt_or (jt_not (jt_B (whole _ 9 _ rfl))) fun _ => jt_test (je_neI (je_var (i := 9) rfl) (je_var (i := 4) rfl))) ?t1) (fun z => Bool.noConfusion z) (fun _ => js_next))
      (js_seq (js_set (i := 10) hrow)
      (js_seq (js_if (b := false) (jt_is (jt_or (jt_not (jt_B (whole _ 10 _ rfl))) fun _ => jt_test (je_neI (je_var (i := 10) rfl) (je_sub je_int (je_lenL (je_lvd (je_var (i := 3) rfl)))))) ?t2) (fun z => Bool.noConfusion z) (fun _ => js_next))
      (js_ret (je_andV (a := true) (b := true) (je_is (je_eqI (je_var (i := 9) rfl) (je_sub (je_mul je_int (je_var (i := 10) rfl) (near_mul (by decide))) je_int)) ?t3) (fun _ => je_is (je_inT (ns := [1, 3, 5]) (je_var (i := 9) rfl) (je_tup (ds := [.int 1, .int 3, .int 5]) (ja_cons je_int (ja_cons je_int (ja_cons je_int ja_nil))))) ?t4)))))))
    case t1 =>
      rw [c1, decide_eq_true rfl]
      rfl
    case t2 =>
      rw [List.length_map]
      show (!true || !decide (((DC.T (subP pts ns) gA 0 : Nat) : Int) = 5 - (M.length : Int))) = false
      have : ((DC.T (subP pts ns) gA 0 : Nat) : Int) = 5 - (M.length : Int) := by omega
      rw [this, decide_eq_true rfl]
      rfl
    case t3 =>
      congr 1
      exact decide_eq_true (by rw [c1]; omega)
    case t4 =>
      congr 1
      rw [c1, k3]
      have : M.length = 0 ∨ M.length = 1 ∨ M.length = 2 := by omega
      rcases this with z | z | z <;> rw [z] <;> rfl
end K12

namespace K12
open PySem PySem.Spec PyProof.Rows L2 Evl EB PySem.W
/-! ### odd numbers of points -/
theorem cover : ∀ n : Nat, n = 5 ∨ n = 7 ∨ n = 9 → (subsL n 3).all (fun t => (rg 0 n).all fun d => t.contains d || decide (((subsL n 5).filter fun F => selP F (t, d)).length = n - 4)) = true := by
  rintro n (rfl | rfl | rfl) <;> decide +kernel
theorem prs_even {pts : List Pt} (g : Gp pts) (h : pts.length = 5 ∨ pts.length = 7 ∨ pts.length = 9) : (prsI pts).length % 2 = 0 := by
  have e1 : DC.S (subsL pts.length 5) (fun F => ((prsI pts).filter (selP F)).length) = (pts.length - 4) * (prsI pts).length := by
    have a1 : DC.S (subsL pts.length 5) (fun F => ((prsI pts).filter (selP F)).length) = DC.S (subsL pts.length 5) fun F => DC.S (prsI pts) fun x => if selP F x = true then 1 else 0 := DC.S_congr fun F _ => DC.S_len _ _
    rw [a1, DC.S_comm, ← DC.S_one (prsI pts), ← DC.S_mul]
    refine DC.S_congr fun x hx => ?_
    unfold prsI at hx
    obtain ⟨t, ht, hx2⟩ := List.mem_flatMap.mp hx
    obtain ⟨d, hd, rfl⟩ := List.mem_map.mp hx2
    obtain ⟨hd1, hin⟩ := List.mem_filter.mp hd
    have c := List.all_eq_true.mp (List.all_eq_true.mp (cover pts.length h) t ht) d hd1
    have nc : t.contains d = false := by
      unfold inT at hin
      rw [Bool.and_eq_true] at hin
      simpa using hin.1
    rw [nc, Bool.false_or, decide_eq_true_eq] at c
    rw [← DC.S_len, c, Nat.mul_one]
  have e2 : DC.S (subsL pts.length 5) (fun F => ((prsI pts).filter (selP F)).length) = 2 * DC.S (subsL pts.length 5) fun F => FV.HC gA (subP pts F) := by
    rw [← DC.S_mul]
    refine DC.S_congr fun F hF => ?_
    have o := okF_of (n := pts.length) (by omega) hF
    have l5 : (subP pts F).length = 5 := by
      unfold subP
      rw [List.length_map, o.len]
    have gQ := g.five o.nd o.rn
    rw [sel_len o, cI_PC l5 gQ.nd]
    exact (five_pts l5 gQ).1
  rw [e1] at e2
  generalize DC.S (subsL pts.length 5) (fun F => FV.HC gA (subP pts F)) = z at e2
  rcases h with h | h | h <;> rw [h] at e2 <;> omega
theorem prs_three {pts : List Pt} (h : pts.length = 3) : (prsI pts).length = 0 := by
  have c : (subsL 3 3).all (fun t => (rg 0 3).all fun d => t.contains d) = true := by decide +kernel
  rw [prsI_cI]
  unfold cI
  rw [h]
  refine Eq.trans (DC.S_congr (g := fun _ => 0) fun t ht => ?_) (DC.S_zero _)
  refine Eq.trans (DC.S_congr (g := fun _ => 0) fun d hd => ?_) (DC.S_zero _)
  have := List.all_eq_true.mp (List.all_eq_true.mp c t ht) d hd
  unfold inT
  rw [this]
  rfl
def frI (n : Nat) : Int := (n : Int) * ((n : Int) - 1) * ((n : Int) - 2) * ((n : Int) - 3) / 24
def fvI (n : Nat) : Int := frI n * ((n : Int) - 4) / 5
theorem frI_comb : ∀ n : Nat, n < 11 → frI n = mcComb (n : Int) 4 := by decide +kernel
theorem odd_dec : ∀ n : Nat, n = 3 ∨ n = 5 ∨ n = 7 ∨ n = 9 → frI n % 2 = fvI n % 2 := by
  rintro n (rfl | rfl | rfl | rfl) <;> decide +kernel
/-! ### the law -/
def sp_law (K : PySem.W.Frag) : Sp := fun vs H Q _ => ∃ (a : Addr) (ns : List Int), vs = [.ref a] ∧ SqL K H a (ns.map V.int) ∧ ns.length ≤ 63 ∧ ∀ H', Q (.bl true) H'
theorem sp_start {K : PySem.W.Frag} {H : Hp} {a : Addr} {ns : List Int} (hl : ns.length ≤ 63) (hS : SqL K H a (ns.map V.int)) : sp_law K [.ref a] H (fun v _ => v = .bl true) fun _ _ _ => False := ⟨a, ns, rfl, hS, hl, fun _ => rfl⟩
def mAt (menu : List Int) (i : Int) : Int := menu.getD i.toNat 0
theorem at_mod {menu : List Int} (h : 0 < menu.length) (c : Int) : atI (menu.map PyData.int) (c % menu.length) = some (.int (mAt menu (c % menu.length))) := by
  have h1 : 0 ≤ c % (menu.length : Int) := Int.emod_nonneg _ (by omega)
  have h2 : c % (menu.length : Int) < menu.length := Int.emod_lt_of_pos _ (by omega)
  generalize c % (menu.length : Int) = i at h1 h2
  obtain ⟨j, rfl⟩ := Int.eq_ofNat_of_zero_le h1
  have h3 : j < menu.length := by omega
  refine atI_nat ?_
  rw [List.getElem?_map, List.getElem?_eq_getElem h3]
  unfold mAt
  simp [h3]
def sizes : List Int := [5, 7, 6, 8, 5, 7, 9, 3]
def mny (c : Int) : Nat := (mAt sizes (c % 8)).toNat
theorem sizes_b : ∀ j : Nat, j < 8 → 3 ≤ mAt sizes (j : Nat) ∧ mAt sizes (j : Nat) ≤ 9 := by decide
theorem sizes_n4 : ∀ j : Nat, j < 8 → mAt sizes (j : Nat) ≠ 4 := by decide
theorem mny_b (c : Int) : (3 ≤ mny c ∧ mny c ≤ 9 ∧ mny c ≠ 4) ∧ (mny c : Int) = mAt sizes (c % 8) := by
  have h1 : 0 ≤ c % 8 := by omega
  have h2 : c % 8 < 8 := by omega
  unfold mny
  generalize c % 8 = i at h1 h2
  obtain ⟨j, rfl⟩ := Int.eq_ofNat_of_zero_le h1
  have h3 := sizes_b j (by omega)
  have h4 := sizes_n4 j (by omega)
  generalize mAt sizes (j : Int) = x at h3 h4
  omega
def PP (ns : List Int) : List (Int × Int) := ptsL ns (mny (cell ns 0)) (decide (2 < cell ns 0 / 8 % 5))
theorem PP_len (ns : List Int) : (PP ns).length = mny (cell ns 0) := by
  unfold PP ptsL
  rw [List.length_map, List.length_range]
theorem PP_small (ns : List Int) : ∀ p ∈ PP ns, small p := small_pts (by have := (mny_b (cell ns 0)).1; omega)
theorem small_near {p : Int × Int} (h : small p) : near p := by
  obtain ⟨⟨h1, h2⟩, h3, h4⟩ := h
  exact ⟨⟨by omega, by omega⟩, by omega, by omega⟩
theorem js_run {K : PySem.W.Frag} {M : EC → Addr} {W : WX} {ts : TS} {ps : Kn} {r : Res} {D : Ends} {σ : L2.St} {F H : Hp} (h : JS K M W ts ps r) (fh : Ex F H) (S : Sl F σ ps) (k : Wsh K M W ps.length D F H r) : ts D σ H := h D σ F H fh S k
theorem floorE_parts {P : List (Int × Int)} (h : floorE P = none) : badPts P = none ∧ onLine P = none := by
  unfold floorE at h
  cases h1 : inR 3 P.length 10 with
  | false => rw [h1] at h; cases h
  | true =>
    rw [h1] at h
    cases h2 : badPts P with
    | some e => rw [h2] at h; cases h
    | none =>
      rw [h2] at h
      exact ⟨rfl, h⟩
theorem js_allL {K : PySem.W.Frag} {M : EC → Addr} {W : WX} {ps : Kn} {vs : List Nat} {wi : TI} {g : TG} {tb : TS} {α : Type} (L : List α) (enc : α → PyData) (hi : JI K M W wi ps (L.map enc))
    (hs : ∀ x ∈ L, ∃ qs, JG vs g ps (dv K (enc x)) qs ∧ JS K M W tb qs (.nx ps)) : JS K M W (tFor wi g tb) ps (.nx ps) := by
  have := js_first (K := K) (M := M) (W := W) (g := g) (tb := tb) (vs := vs) L enc (fun _ => (none : Option Er)) Out.er hi fun x hx => by
    obtain ⟨qs, hg, hb⟩ := hs x hx
    exact ⟨qs, hg, hb⟩
  rw [List.findSome?_eq_none_iff.mpr (fun _ _ => rfl)] at this
  exact this
theorem at_fi {F : List Int} {k : Int} (h : 0 ≤ k ∧ k < F.length) : atI (F.map PyData.int) k = some (.int (fi F k)) := by
  obtain ⟨j, rfl⟩ := Int.eq_ofNat_of_zero_le h.1
  refine atI_nat ?_
  rw [List.getElem?_map, List.getElem?_eq_getElem (by omega)]
  unfold fi
  simp [show j < F.length by omega]
theorem fi_four {F : List Int} (h : F.length = 5) : [0, 1, 2, 3, 4].map (fi F) = F := by
  match F, h with
  | [a, b, c, d, e], _ => rfl
theorem ok_law {P : Program} {w : World} {K : PySem.W.Frag} {mg : Str → Option Value} {base : Heap} (T : Tx K mg) : FnOk P w K mg base CX0 9 T.a_law T.fd_law ["script"] (sp_law K) := by
  refine T.F_law.ok sc_law (fun vs H Q E h => by obtain ⟨a, ns, rfl, _⟩ := h; rfl) (fun cdv A outer s H vs Q E hr h => ?_)
  refine ⟨_, (pss_cons (ps_set (i := 1) sc_law.nd rfl (by first | exact Or.inl rfl | exact Or.inr rfl) (pe_slice sl_list (pv 0) po_none (po_some pe_int)))
      (pss_cons (ps_set (i := 2) sc_law.nd rfl (by first | exact Or.inl rfl | exact Or.inr rfl) (pe_callS (ok__law_cell T) (hr.mono (by decide)) (by rfl) T.g__law_cell T.F__law_cell.kp (b__law_cell T) (fun σ => passAt takes0 σ) (pa_cons (pv 1) (pa_cons pe_int pa_nil))))
      (pss_cons (ps_set (i := 3) sc_law.nd rfl (by first | exact Or.inl rfl | exact Or.inr rfl) (pe_ix ix_tup (pe_tup (pa_cons pe_int (pa_cons pe_int (pa_cons pe_int (pa_cons pe_int (pa_cons pe_int (pa_cons pe_int (pa_cons pe_int (pa_cons pe_int pa_nil))))))))) (pe_op op_mod (pe_callTy call_int1 (by rfl) T.z_int PyProof.Rows.boot_int (pa_cons (pv 2) pa_nil)) pe_int) (fun _ _ => rfl)))
      (pss_cons (ps_set (i := 4) sc_law.nd rfl (by first | exact Or.inl rfl | exact Or.inr rfl) (pe_callS (ok__law_drawn T) (hr.mono (by decide)) (by rfl) T.g__law_drawn T.F__law_drawn.kp (b__law_drawn T) (fun σ => passAt takes0 σ) (pa_cons (pv 1) (pa_cons (pv 3) (pa_cons (pe_cmpR op_gt (pe_op op_mod (pe_callTy call_int1 (by rfl) T.z_int PyProof.Rows.boot_int (pa_cons (pe_op op_fdiv (pv 2) pe_int) pa_nil)) pe_int) pe_int (nomark _)) pa_nil)))))
      (pss_cons (ps_set (i := 5) sc_law.nd rfl (by first | exact Or.inl rfl | exact Or.inr rfl) (pe_callS (ok__law_refusal T) (hr.mono (by decide)) (by rfl) T.g__law_refusal T.F__law_refusal.kp (b__law_refusal T) (fun σ => passAt takes0 σ) (pa_cons (pv 4) pa_nil)))
      (pss_cons (ps_if (pt_cmpR (op_neD hr.units) (pe_callS (ok__law_made T) (hr.mono (by decide)) (by rfl) T.g__law_made T.F__law_made.kp (b__law_made T) (fun σ => passAt takes0 σ) (pa_cons (pe_callTy call_list_of (by rfl) T.z_list PyProof.Rows.boot_list (pa_cons (pv 4) pa_nil)) pa_nil)) (pv 5) (nomark _)) (pss_one (ps_ret pe_bl)) pss_nil)
      (pss_cons (ps_if (pt_cmpR op_eq (pe_ix ix_tup (pv 5) pe_int (fun _ _ => rfl)) pe_str (nomark _)) (pss_one (ps_ret pe_bl)) pss_nil)
      (pss_cons (ps_set (i := 6) sc_law.nd rfl (by first | exact Or.inl rfl | exact Or.inr rfl) (pe_makeS T.M_Floor (ok_Floor___init__ T) (hr.mono (by decide)) (by rfl) T.g_Floor (b_Floor___init__ T) (fun σ => passAt takes0 σ) (pa_cons (pv 4) pa_nil)))
      (pss_cons (ps_set (i := 7) sc_law.nd rfl (by first | exact Or.inl rfl | exact Or.inr rfl) (pe_callS (ok__law_pairs T) (hr.mono (by decide)) (by rfl) T.g__law_pairs T.F__law_pairs.kp (b__law_pairs T) (fun σ => passAt takes0 σ) (pa_cons (pv 4) pa_nil)))
      (pss_cons (ps_set (i := 8) sc_law.nd rfl (by first | exact Or.inl rfl | exact Or.inr rfl) (pe_op op_fdiv (pe_op op_mul (pe_op op_mul (pe_op op_mul (pv 3) (pe_op op_sub (pv 3) pe_int)) (pe_op op_sub (pv 3) pe_int)) (pe_op op_sub (pv 3) pe_int)) pe_int))
      (pss_cons (ps_set (i := 9) sc_law.nd rfl (by first | exact Or.inl rfl | exact Or.inr rfl) (pe_op op_fdiv (pe_op op_mul (pv 8) (pe_op op_sub (pv 3) pe_int)) pe_int))
      (pss_cons (ps_for PassesOwn.never rfl (pi_range1 (by rfl) T.z_range (pa_cons pe_int pa_nil)) (pg_name (i := 10) sc_law.nd rfl (by first | exact Or.inl rfl | exact Or.inr rfl)) (pss_cons (ps_set (i := 11) sc_law.nd rfl (by first | exact Or.inl rfl | exact Or.inr rfl) (pe_callS (ok_convex_fours T) (hr.mono (by decide)) (by rfl) T.g_convex_fours T.F_convex_fours.kp (b_convex_fours T) (fun σ => passAt takes0 σ) (pa_cons (pv 6) pa_nil)))
      (pss_one (ps_if (PW.pt (pw_or (pt_not (pt_val (pe_callS (ok__law_whole T) (hr.mono (by decide)) (by rfl) T.g__law_whole T.F__law_whole.kp (b__law_whole T) (fun σ => passAt takes0 σ) (pa_cons (pv 11) pa_nil)))) (pw_or1 (pt_cmpR op_ne (pv 11) (pe_op op_sub (pv 8) (pe_callB call_len_seq (by rfl) T.z_len PySem.boot_len (pa_cons (pv 7) pa_nil))) (nomark _))))) (pss_one (ps_ret pe_bl)) pss_nil))))
      (pss_cons (ps_if (PW.pt (pw_and (pt_cmpR op_eq (pe_op op_mod (pe_callTy call_int1 (by rfl) T.z_int PyProof.Rows.boot_int (pa_cons (pv 3) pa_nil)) pe_int) pe_int (nomark _)) (pw_and1 (pt_cmpR op_ne (pe_op op_mod (pe_callTy call_int1 (by rfl) T.z_int PyProof.Rows.boot_int (pa_cons (pv 11) pa_nil)) pe_int) (pe_op op_mod (pe_callTy call_int1 (by rfl) T.z_int PyProof.Rows.boot_int (pa_cons (pv 9) pa_nil)) pe_int) (nomark _))))) (pss_one (ps_ret pe_bl)) pss_nil)
      (pss_cons (ps_if (pt_cmpR op_eq (pv 3) pe_int (nomark _)) (pss_one (ps_ret pe_bl)) pss_nil)
      (pss_cons (ps_set (i := 12) sc_law.nd rfl (by first | exact Or.inl rfl | exact Or.inr rfl) (pe_callS (ok__law_order T) (hr.mono (by decide)) (by rfl) T.g__law_order T.F__law_order.kp (b__law_order T) (fun σ => passAt takes0 σ) (pa_cons (pe_callS (ok__law_cell T) (hr.mono (by decide)) (by rfl) T.g__law_cell T.F__law_cell.kp (b__law_cell T) (fun σ => passAt takes0 σ) (pa_cons (pv 1) (pa_cons pe_int pa_nil))) pa_nil)))
      (pss_cons (ps_for PassesOwn.never rfl (pi_list (pe_callS (ok__law_fives T) (hr.mono (by decide)) (by rfl) T.g__law_fives T.F__law_fives.kp (b__law_fives T) (fun σ => passAt takes0 σ) (pa_cons (pv 3) pa_nil))) (pg_name (i := 13) sc_law.nd rfl (by first | exact Or.inl rfl | exact Or.inr rfl)) (pss_one (ps_if (pt_not (pt_val (pe_callS (ok__law_five_holds T) (hr.mono (by decide)) (by rfl) T.g__law_five_holds T.F__law_five_holds.kp (b__law_five_holds T) (fun σ => passAt takes0 σ) (pa_cons (pv 6) (pa_cons (pe_lc (own := [("k", 10)]) (g := (gName 10)) (tt := tYes) (te := (tOp (rIxL K) (tVar 13) (tVar 10))) rfl sc_law.nd (pi_list (pv 12)) (blkOk_by (N := N_law) (sc := defScope s_law) (own := [("k", 10)]) (by decide +kernel)) (fun _ _ _ _ _ => (pg_name (i := 10) sc_law.nd rfl (by first | exact Or.inl rfl | exact Or.inr rfl))) (fun _ _ _ _ _ => by exact pts_nil) (fun _ _ _ _ _ => by exact (pe_ix ix_list (pv 13) (pv 10) (fun _ _ => rfl)))) (pa_cons (pv 7) pa_nil)))))) (pss_one (ps_ret pe_bl)) pss_nil)))
      (pss_one (ps_ret pe_bl)))))))))))))))))), ?_⟩
  obtain ⟨a0, ns0, rfl, hS, hlen, hQ⟩ := h
  let W0 : WX := fun _ _ _ _ => False
  let ns := ns0.take 63
  let c := cell ns 0
  let n := mny c
  let P := PP ns
  have hn := mny_b c
  have hPl : P.length = n := PP_len ns
  have hPn : ∀ p ∈ P, near p := fun p hp => small_near (PP_small ns p hp)
  have S0 : Sl H (L2.start N_law [.ref a0]) (entry N_law [dv K (.list (intsD ns0))]) := Sl.start (.cons (.lst hS (dpAll_ints ns0)) .nil)
  let pre5 : Kn → Kn := fun r => some (dv K (.list (intsD ns0))) :: some (dv K (.list (intsD ns))) :: some (dv K (.int c)) :: some (dv K (.int n)) :: some (dv K (.list (P.map pD))) :: some (dv K (refD P)) :: r
  have cellc := fun (ps : Kn) (h1 : ps[1]? = some (some (dv K (.list (intsD ns))))) (k : Nat) => je_call (K := K) (M := T.M) (W := W0) (args := args__law_cell T) (dom := dom__law_cell) (out := out__law_cell T) (ns, k) (ja_cons (je_var (ps := ps) (i := 1) h1) (ja_cons (je_int (i := (k : Nat))) ja_nil)) trivial
  refine js_run (K := K) (M := T.M) (W := W0) (r := .rt (dv K (.bool true))) ?_ (Ex.refl H) S0 (fun v F' H' g p => by rw [dp_bl p]; exact hQ H')
  refine js_seq (js_set (i := 1) (P := dv K (.list (intsD ns))) (je_is (je_slL (ds := intsD ns0) (je_var (i := 0) rfl) jo_none (jo_some (je_int (i := ((63 : Nat) : Int))))) (congrArg PyData.list (cutD_map _ _ _))))
    (js_seq (js_set (i := 2) (P := dv K (.int c)) (cellc _ rfl 0))
    (js_seq (js_set (i := 3) (P := dv K (.int n)) (je_is (je_ixT (ds := sizes.map .int) (je_tup (ds := sizes.map .int) (ja_cons je_int (ja_cons je_int (ja_cons je_int (ja_cons je_int (ja_cons je_int (ja_cons je_int (ja_cons je_int (ja_cons je_int ja_nil)))))))) (by decide)) (je_mod (je_intI (je_var (i := 2) rfl)) je_int (by decide)) (at_mod (menu := sizes) (by decide) c)) (congrArg PyData.int hn.2.symm)))
    (js_seq (js_set (i := 4) (P := dv K (.list (P.map pD))) (je_call (args := args__law_drawn T) (dom := dom__law_drawn) (out := out__law_drawn T) (ns, n, decide (2 < c / 8 % 5)) (ja_cons (je_var (i := 1) rfl) (ja_cons (je_var (i := 3) rfl) (ja_cons (je_gt (je_mod (je_intI (je_div (je_var (i := 2) rfl) je_int ⟨by decide, by decide⟩)) je_int (by decide)) je_int) ja_nil))) (show mny c ≤ 10 by have := hn.1; omega)))
    (js_seq (js_set (i := 5) (P := dv K (refD P)) (je_call (args := args__law_refusal T) (dom := dom__law_refusal) (out := out__law_refusal T) P (ja_cons (je_var (i := 4) rfl) ja_nil) hPn))
    (js_seq (js_if (b := false) (jt_test (je_neR (je_call (args := args__law_made T) (dom := dom__law_made) (out := out__law_made T) P (ja_cons (je_listL (je_var (i := 4) rfl)) ja_nil) trivial) (je_var (i := 5) rfl) (ok_ref P))) (fun z => Bool.noConfusion z) (fun _ => js_next))
    ?rest)))))
  case rest =>
    let ps4 : Kn := pre5 [none, none, none, none, none, none, none, none]
    show JS K T.M W0 _ ps4 _
    cases hf : floorE P with
    | some e =>
      have er : refD P = .tuple [.str "raised", .str (nmE e.c), e.val, .bool true] := by
        unfold refD
        rw [hf]
        rfl
      exact js_rt (js_if (b := true) (jt_is (jt_test (je_eqS (je_ixT (je_is (je_var (ps := ps4) (i := 5) rfl) er) (je_int (i := 0)) (by exact atI_nat (j := 0) rfl)) je_str)) (by decide)) (fun _ => js_ret je_bl) (fun z => Bool.noConfusion z))
    | none =>
      have er : refD P = .tuple [.str "floor", .str "", .tuple (P.map pD), .bool true] := by
        unfold refD
        rw [hf]
        rfl
      have mf := mk_floor T (W := W0) (ps := ps4) (pts := P) (ja_cons (je_var (i := 4) rfl) ja_nil)
      rw [hf] at mf
      obtain ⟨hb, ho⟩ := floorE_parts hf
      have h9 : P.length ≤ 9 := by rw [hPl]; exact hn.1.2.1
      have h3 : 3 ≤ P.length := by rw [hPl]; exact hn.1.1
      have h4 : P.length ≠ 4 := by rw [hPl]; exact hn.1.2.2
      have g : Gp P := gp_of ho (by omega) h3
      let fl := ob1 K T.a_Floor "points" (.tuple (P.map pD))
      let prd := dv K (.list ((prsI P).map encP))
      let frd := dv K (.int (frI P.length))
      let fvd := dv K (.int (fvI P.length))
      let ctd := dv K (.int (cfI P))
      have manyV : ∀ ps : Kn, ps[3]? = some (some (dv K (.int n))) → JD K T.M W0 (tVar 3) ps (.int P.length) := fun ps h => je_is (je_var (i := 3) h) (by rw [hPl])
      let psA : Kn := pre5 [some fl, some prd, some frd, some fvd, none, none, none, none]
      let psB : Kn := pre5 [some fl, some prd, some frd, some fvd, none, some ctd, none, none]
      let f : Nat → Kn := fun i => match i with
        | 0 => psA
        | _ + 1 => psB
      have cf : cfI P = frI P.length - ((prsI P).length : Int) := by
        unfold cfI
        rw [frI_comb _ (by omega)]
      have body : JS K T.M W0 (tSeq (tAsg (tCallS (Prm K T.M (args_convex_fours T) dom_convex_fours (out_convex_fours T)) (WE W0) (tCons (tVar 6) tNil)) (gName 11)) (tIfS (tOr (tNot (tB (tCallS (Prm K T.M (args__law_whole T) dom__law_whole (out__law_whole T)) (WE W0) (tCons (tVar 11) tNil)))) (tTest (tOp rNe (tVar 11) (tOp (rI0 fun i j => .int (i - j)) (tVar 8) (tCB (rLenS K) (tCons (tVar 7) tNil)))))) (tRet (tC (.bl false))) tNext)) (pre5 [some fl, some prd, some frd, some fvd, none, none, none, none]) (.nx psB) := by
        refine js_seq (js_set (i := 11) (P := ctd) (je_call (args := args_convex_fours T) (dom := dom_convex_fours) (out := out_convex_fours T) P (ja_cons (je_var (i := 6) rfl) ja_nil) ⟨by omega, hPn⟩)) (js_if (b := false) (jt_is (jt_or (jt_not (jt_B (je_call (args := args__law_whole T) (dom := dom__law_whole) (out := out__law_whole T) (cfI P) (ja_cons (je_var (i := 11) rfl) ja_nil) trivial))) fun _ => jt_test (je_neI (je_var (i := 11) rfl) (je_sub (je_var (i := 8) rfl) (je_lenL (je_var (i := 7) rfl))))) ?_) (fun z => Bool.noConfusion z) (fun _ => js_next))
        rw [List.length_map, cf, decide_eq_true rfl]
        rfl
      refine js_seq (js_if (b := false) (jt_is (jt_test (je_eqS (je_ixT (je_is (je_var (ps := ps4) (i := 5) rfl) er) (je_int (i := 0)) (by exact atI_nat (j := 0) rfl)) je_str)) (by decide)) (fun z => Bool.noConfusion z) (fun _ => js_next))
        (js_seq (js_set (i := 6) mf)
        (js_seq (js_set (i := 7) (P := prd) (je_call (args := args__law_pairs T) (dom := dom__law_pairs) (out := out__law_pairs T) P (ja_cons (je_var (i := 4) rfl) ja_nil) ⟨by omega, hPn⟩))
        (js_seq (js_set (i := 8) (P := frd) (je_div (je_mul (je_mul (je_mul (manyV _ rfl) (je_sub (manyV _ rfl) je_int) (mul_c ⟨by omega, by omega⟩)) (je_sub (manyV _ rfl) je_int) (mul_c ⟨by omega, by omega⟩)) (je_sub (manyV _ rfl) je_int) (mul_c ⟨by omega, by omega⟩)) je_int ⟨by decide, by decide⟩))
        (js_seq (js_set (i := 9) (P := fvd) (je_div (je_mul (je_var (i := 8) rfl) (je_sub (manyV _ rfl) je_int) (mul_c ⟨by omega, by omega⟩)) je_int ⟨by decide, by decide⟩))
        (js_seq (qs := psB) (js_for (vs := [10]) f 2 (ji_is (ji_upto (n := 2) je_int (by decide)) rfl) rfl (by decide) (fun i d hi hd => ?_) (.inl ⟨rfl, rfl⟩) (hf := fun i => by cases i <;> rfl))
        (js_seq (js_if (b := false) (jt_is (jt_and (jt_test (je_eqI (je_mod (je_intI (manyV _ rfl)) je_int (by decide)) je_int)) fun _ => jt_test (je_neI (je_mod (je_intI (je_var (i := 11) rfl)) je_int (by decide)) (je_mod (je_intI (je_var (i := 9) rfl)) je_int (by decide)))) ?odd) (fun z => Bool.noConfusion z) (fun _ => js_next))
        ?last))))))
      · match i, hi with
        | 0, _ => exact ⟨psA.set 10 (some (dv K d)), jg_name, .inl (js_weak (js_pre (ps := psA.set 10 (some (dv K d))) body ⟨.inr rfl, .inr rfl, .inr rfl, .inr rfl, .inr rfl, .inr rfl, .inr rfl, .inr rfl, .inr rfl, .inr rfl, .inl rfl, .inr rfl, .inr rfl, .inr rfl, trivial⟩) (Weak.rfl_ _))⟩
        | 1, _ => exact ⟨psB.set 10 (some (dv K d)), jg_name, .inl (js_weak (js_pre (ps := psB.set 10 (some (dv K d))) body ⟨.inr rfl, .inr rfl, .inr rfl, .inr rfl, .inr rfl, .inr rfl, .inr rfl, .inr rfl, .inr rfl, .inr rfl, .inl rfl, .inl rfl, .inr rfl, .inr rfl, trivial⟩) (Weak.rfl_ _))⟩
      case odd =>
        by_cases hod : ((P.length : Int) % 2 = 1)
        · have key : cfI P % 2 = fvI P.length % 2 := by
            by_cases z3 : P.length = 3
            · have := prs_three z3
              have o := odd_dec P.length (.inl z3)
              omega
            · have h5 : P.length = 5 ∨ P.length = 7 ∨ P.length = 9 := by omega
              have := prs_even g h5
              have o := odd_dec P.length (.inr h5)
              omega
          rw [key, decide_eq_true rfl]
          simp
        · rw [decide_eq_false hod]
          rfl
      case last =>
        by_cases z9 : ((P.length : Int) = 9)
        · exact js_rt (js_if (b := true) (jt_is (jt_test (je_eqI (manyV _ rfl) je_int)) (decide_eq_true z9)) (fun _ => js_ret je_bl) (fun z => Bool.noConfusion z))
        · refine js_seq (js_if (b := false) (jt_is (jt_test (je_eqI (manyV _ rfl) je_int)) (decide_eq_false z9)) (fun z => Bool.noConfusion z) (fun _ => js_next))
            (js_seq (js_set (i := 12) (P := dv K (.list ((ordL (cell ns 11)).map .int))) (je_call (args := args__law_order T) (dom := dom__law_order) (out := out__law_order T) (cell ns 11) (ja_cons (cellc _ rfl 11) ja_nil) trivial))
            (js_seq (js_allL (vs := [13]) (fivesL P.length) (fun x => .list (x.map .int)) (ji_list (je_call (args := args__law_fives T) (dom := dom__law_fives) (out := out__law_fives T) P.length (ja_cons (manyV _ rfl) ja_nil) (show P.length ≤ 10 by omega))) fun F hF => ⟨_, jg_name, ?_⟩)
            (js_ret je_bl)))
          have hin : F ∈ subsL P.length 5 := List.contains_iff_mem.mp (List.all_eq_true.mp (fives_in P.length (by omega)) F hF)
          have o := okF_of (n := P.length) (by omega) hin
          have op := ord_perm (cell ns 11)
          have fv : Five P ((ordL (cell ns 11)).map (fi F)) F := ⟨h9, hPn, g, hb, hin, by
            have := op.map (fi F)
            rw [fi_four o.len] at this
            exact this⟩
          have or5 : ∀ k ∈ ordL (cell ns 11), 0 ≤ k ∧ k < F.length := fun k hk => by
            have := op.mem_iff.mp hk
            rw [o.len]
            simp only [List.mem_cons, List.not_mem_nil, or_false] at this
            omega
          have ol : (ordL (cell ns 11)).length = 5 := op.length_eq
          exact js_if (b := false) (jt_not (a := true) (jt_B (je_call (args := args__law_five_holds T) (dom := dom__law_five_holds) (out := out__law_five_holds T) (P, (ordL (cell ns 11)).map (fi F), F) (ja_cons (je_var (i := 6) rfl) (ja_cons (je_is (je_lc (W' := W0) (ordL (cell ns 11)) .int (fun _ => true) (fun k => .int (fi F k)) (ji_list (je_var (i := 12) rfl)) (by omega) fun k hk => ⟨_, jg_name, jt_yes, fun _ => je_ixL (je_var (i := 13) rfl) (je_var (i := 10) rfl) (at_fi (or5 k hk))⟩) (by
            rw [List.filter_eq_self.mpr fun _ _ => rfl, List.map_map]
            rfl)) (ja_cons (je_var (i := 7) rfl) ja_nil))) fv))) (fun z => Bool.noConfusion z) (fun _ => js_weak js_next ⟨.inr rfl, .inr rfl, .inr rfl, .inr rfl, .inr rfl, .inr rfl, .inr rfl, .inr rfl, .inr rfl, .inr rfl, .inr rfl, .inr rfl, .inr rfl, .inl rfl, trivial⟩)
end K12

namespace K12
open PySem PySem.Spec PyProof.Rows L2 Evl EB
theorem bt {K : PySem.W.Frag} {mg : Str → Option Value} (T : Tx K mg) (s : Shared) (v : Value) : BindsTo s T.fd_law ⟨[v], []⟩ [("script", v)] := by
  obtain ⟨oc, od, kV, doc, pm, an, cdv, ct, osl, e, _⟩ := T.F_law.ex
  rw [e]
  exact BindsTo.of_eq rfl
theorem close {l : PySem.W.OpenLaw} {w : World} {K : PySem.W.Frag} {mg : Str → Option Value} {fa : Addr} (h : ∃ T : Tx K mg, mg "law" = some (.ref T.a_law)) (hm : mg "law" = some (.ref fa)) :
    ∃ fd : FuncData, (∀ (s : Shared) (v : Value), BindsTo s fd ⟨[v], []⟩ [("script", v)]) ∧ ∀ base : Heap, K.In base → base.Ns mainGlobals mg → FnOk l.prog w K mg base L2.CX0 9 fa fd ["script"] (sp_law K) := by
  obtain ⟨T, hl⟩ := h
  rw [hm] at hl
  cases hl
  exact ⟨T.fd_law, bt T, fun base _ _ => ok_law T⟩
end K12

open PySem PySem.W PyProof.Rows
set_option maxRecDepth 100000 in
set_option maxHeartbeats 0 in
theorem PySem.Challenge.cw_everybowl_k12_parity_of_convex_fours_holds : PySem.Challenge.rw_everybowl_k12_parity_of_convex_fours.Holds := by
  w_on; o_law; k_head; (case hw => w_witness2)
  k_fill
  refine EB.walk_ofX (l := PySem.Challenge.rw_everybowl_k12_parity_of_convex_fours) (n := 63) (k := 9) (x := "script") (CX := L2.CX0) (sp := K12.sp_law) rfl (by decide) rfl ⟨rfl, by decide, by decide⟩ (fun w h Y => PySem.W.kIn_of Y) ?F (fun _ _ a ns hl _ hS => K12.sp_start hl hS) (fun _ _ _ _ z => z)
  case F =>
    intro w mg fa h KX G LX hmg
    refine K12.close ?mk hmg
    case mk =>
      refine' K12.mk_tx KX G  ?n_Repeated ?o_Repeated ?v_Repeated ?sa_Repeated ?sb_Repeated ?ty_Repeated ?kc_Repeated ?ii_Repeated ?ti_Repeated ?nf_Repeated ?ga_Repeated ?gt_Repeated ?hd_Repeated ?is_Repeated ?ca_Repeated ?mo_Repeated ?l_Repeated ?c_Repeated ?kp_Repeated ?n_NoPoint ?o_NoPoint ?v_NoPoint ?sa_NoPoint ?sb_NoPoint ?ty_NoPoint ?kc_NoPoint ?ii_NoPoint ?ti_NoPoint ?nf_NoPoint ?ga_NoPoint ?gt_NoPoint ?hd_NoPoint ?is_NoPoint ?ca_NoPoint ?mo_NoPoint ?l_NoPoint ?c_NoPoint ?kp_NoPoint ?n_TooFar ?o_TooFar ?v_TooFar ?sa_TooFar ?sb_TooFar ?ty_TooFar ?kc_TooFar ?ii_TooFar ?ti_TooFar ?nf_TooFar ?ga_TooFar ?gt_TooFar ?hd_TooFar ?is_TooFar ?ca_TooFar ?mo_TooFar ?l_TooFar ?c_TooFar ?kp_TooFar ?n_OnLine ?o_OnLine ?v_OnLine ?sa_OnLine ?sb_OnLine ?ty_OnLine ?kc_OnLine ?ii_OnLine ?ti_OnLine ?nf_OnLine ?ga_OnLine ?gt_OnLine ?hd_OnLine ?is_OnLine ?ca_OnLine ?mo_OnLine ?l_OnLine ?c_OnLine ?kp_OnLine ?n_WrongCount ?o_WrongCount ?v_WrongCount ?sa_WrongCount ?sb_WrongCount ?ty_WrongCount ?kc_WrongCount ?ii_WrongCount ?ti_WrongCount ?nf_WrongCount ?ga_WrongCount ?gt_WrongCount ?hd_WrongCount ?is_WrongCount ?ca_WrongCount ?mo_WrongCount ?l_WrongCount ?c_WrongCount ?kp_WrongCount ?n_BowlError ?is_BowlError ?ty_BowlError ?gn ?tkc ?n_Floor ?pg_Floor ?hd_Floor ?po_Floor ?sa_Floor ?tc_Floor ?rd_Floor ?gc_Floor ?na_Floor_points ?cv_Floor_LEAST ?cv_Floor_MOST ?cv_Floor_FAR ?ca_Floor ?mo_Floor ?n__law_fives ?l__law_fives ?c__law_fives ?kp__law_fives ?n__law_whole ?l__law_whole ?c__law_whole ?kp__law_whole ?n_tally ?l_tally ?c_tally ?kp_tally ?f_Floor___len__ ?fi_Floor___len__ ?l_Floor___len__ ?c_Floor___len__ ?kp_Floor___len__ ?n_others ?l_others ?c_others ?kp_others ?n_bare_area ?l_bare_area ?c_bare_area ?kp_bare_area ?n_check_number ?l_check_number ?c_check_number ?kp_check_number ?n_check_numbers ?l_check_numbers ?c_check_numbers ?kp_check_numbers ?f_Floor_left_of ?fi_Floor_left_of ?l_Floor_left_of ?c_Floor_left_of ?kp_Floor_left_of ?n_lines_and_lefts ?l_lines_and_lefts ?c_lines_and_lefts ?kp_lines_and_lefts ?n_line_row ?l_line_row ?c_line_row ?kp_line_row ?n_check_range ?l_check_range ?c_check_range ?kp_check_range ?n_choose ?l_choose ?c_choose ?kp_choose ?n_first_behind ?l_first_behind ?c_first_behind ?kp_first_behind ?n_subset_list ?l_subset_list ?c_subset_list ?kp_subset_list ?n_is_within ?l_is_within ?c_is_within ?kp_is_within ?n_is_around ?l_is_around ?c_is_around ?kp_is_around ?n_inner_pairs ?l_inner_pairs ?c_inner_pairs ?kp_inner_pairs ?n_convex_fours ?l_convex_fours ?c_convex_fours ?kp_convex_fours ?n_check_turns ?l_check_turns ?c_check_turns ?kp_check_turns ?n_check_point ?l_check_point ?c_check_point ?kp_check_point ?n_check_count ?l_check_count ?c_check_count ?kp_check_count ?f_Floor___init__ ?fi_Floor___init__ ?l_Floor___init__ ?c_Floor___init__ ?kp_Floor___init__ ?mk_Floor ?kc_Floor ?f_Floor_only ?fi_Floor_only ?l_Floor_only ?c_Floor_only ?kp_Floor_only ?n__law_five_holds ?l__law_five_holds ?c__law_five_holds ?kp__law_five_holds ?n__law_order ?l__law_order ?c__law_order ?kp__law_order ?n__law_cell ?l__law_cell ?c__law_cell ?kp__law_cell ?n__law_area ?l__law_area ?c__law_area ?kp__law_area ?n__law_is_within ?l__law_is_within ?c__law_is_within ?kp__law_is_within ?n__law_pairs ?l__law_pairs ?c__law_pairs ?kp__law_pairs ?n__law_made ?l__law_made ?c__law_made ?kp__law_made ?n__law_refusal ?l__law_refusal ?c__law_refusal ?kp__law_refusal ?n__law_drawn ?l__law_drawn ?c__law_drawn ?kp__law_drawn ?n_law ?l_law ?c_law ?kp_law ?n_comb ?z_ValueError ?z_abs ?z_bool ?z_enumerate ?z_int ?z_isinstance ?z_len ?z_list ?z_range ?z_tuple ?s_WrongCount_BowlError ?s_WrongCount_ValueError ?s_TooFar_BowlError ?s_TooFar_ValueError ?s_OnLine_BowlError ?s_OnLine_ValueError ?s_WrongCount_WrongCount ?s_WrongCount_OnLine ?s_WrongCount_TooFar ?s_TooFar_TooFar ?s_TooFar_OnLine ?s_TooFar_WrongCount ?s_OnLine_OnLine ?s_OnLine_TooFar ?s_OnLine_WrongCount
      (case n_Repeated => k_is)
      (case o_Repeated => k_is)
      (case v_Repeated => exact (by decide +kernel))
      (case sa_Repeated => k_is)
      (case sb_Repeated => k_is)
      (case ty_Repeated => k_is)
      (case kc_Repeated => k_is)
      (case ii_Repeated => k_is)
      (case ti_Repeated => k_is)
      (case nf_Repeated => k_is)
      (case ga_Repeated => k_is)
      (case gt_Repeated => k_is)
      (case hd_Repeated => k_is)
      (case is_Repeated => k_is)
      (case ca_Repeated => k_is)
      (case mo_Repeated => k_is)
      (case l_Repeated => k_is)
      (case c_Repeated => k_is)
      (case kp_Repeated => k_is)
      (case n_NoPoint => k_is)
      (case o_NoPoint => k_is)
      (case v_NoPoint => exact (by decide +kernel))
      (case sa_NoPoint => k_is)
      (case sb_NoPoint => k_is)
      (case ty_NoPoint => k_is)
      (case kc_NoPoint => k_is)
      (case ii_NoPoint => k_is)
      (case ti_NoPoint => k_is)
      (case nf_NoPoint => k_is)
      (case ga_NoPoint => k_is)
      (case gt_NoPoint => k_is)
      (case hd_NoPoint => k_is)
      (case is_NoPoint => k_is)
      (case ca_NoPoint => k_is)
      (case mo_NoPoint => k_is)
      (case l_NoPoint => k_is)
      (case c_NoPoint => k_is)
      (case kp_NoPoint => k_is)
      (case n_TooFar => k_is)
      (case o_TooFar => k_is)
      (case v_TooFar => exact (by decide +kernel))
      (case sa_TooFar => k_is)
      (case sb_TooFar => k_is)
      (case ty_TooFar => k_is)
      (case kc_TooFar => k_is)
      (case ii_TooFar => k_is)
      (case ti_TooFar => k_is)
      (case nf_TooFar => k_is)
      (case ga_TooFar => k_is)
      (case gt_TooFar => k_is)
      (case hd_TooFar => k_is)
      (case is_TooFar => k_is)
      (case ca_TooFar => k_is)
      (case mo_TooFar => k_is)
      (case l_TooFar => k_is)
      (case c_TooFar => k_is)
      (case kp_TooFar => k_is)
      (case n_OnLine => k_is)
      (case o_OnLine => k_is)
      (case v_OnLine => exact (by decide +kernel))
      (case sa_OnLine => k_is)
      (case sb_OnLine => k_is)
      (case ty_OnLine => k_is)
      (case kc_OnLine => k_is)
      (case ii_OnLine => k_is)
      (case ti_OnLine => k_is)
      (case nf_OnLine => k_is)
      (case ga_OnLine => k_is)
      (case gt_OnLine => k_is)
      (case hd_OnLine => k_is)
      (case is_OnLine => k_is)
      (case ca_OnLine => k_is)
      (case mo_OnLine => k_is)
      (case l_OnLine => k_is)
      (case c_OnLine => k_is)
      (case kp_OnLine => k_is)
      (case n_WrongCount => k_is)
      (case o_WrongCount => k_is)
      (case v_WrongCount => exact (by decide +kernel))
      (case sa_WrongCount => k_is)
      (case sb_WrongCount => k_is)
      (case ty_WrongCount => k_is)
      (case kc_WrongCount => k_is)
      (case ii_WrongCount => k_is)
      (case ti_WrongCount => k_is)
      (case nf_WrongCount => k_is)
      (case ga_WrongCount => k_is)
      (case gt_WrongCount => k_is)
      (case hd_WrongCount => k_is)
      (case is_WrongCount => k_is)
      (case ca_WrongCount => k_is)
      (case mo_WrongCount => k_is)
      (case l_WrongCount => k_is)
      (case c_WrongCount => k_is)
      (case kp_WrongCount => k_is)
      (case n_BowlError => k_is)
      (case is_BowlError => k_is)
      (case ty_BowlError => k_is)
      (case gn => k_is)
      (case tkc => k_is)
      (case n_Floor => k_is)
      (case pg_Floor => k_is)
      (case hd_Floor => k_is)
      (case po_Floor => k_is)
      (case sa_Floor => k_is)
      (case tc_Floor => k_is)
      (case rd_Floor => k_is)
      (case gc_Floor => k_is)
      (case na_Floor_points => k_is)
      (case cv_Floor_LEAST => k_is)
      (case cv_Floor_MOST => k_is)
      (case cv_Floor_FAR => k_is)
      (case ca_Floor => k_is)
      (case mo_Floor => k_is)
      (case n__law_fives => k_is)
      (case l__law_fives => k_is)
      (case c__law_fives => k_is)
      (case kp__law_fives => k_is)
      (case n__law_whole => k_is)
      (case l__law_whole => k_is)
      (case c__law_whole => k_is)
      (case kp__law_whole => k_is)
      (case n_tally => k_is)
      (case l_tally => k_is)
      (case c_tally => k_is)
      (case kp_tally => k_is)
      (case f_Floor___len__ => k_is)
      (case fi_Floor___len__ => k_is)
      (case l_Floor___len__ => k_is)
      (case c_Floor___len__ => k_is)
      (case kp_Floor___len__ => k_is)
      (case n_others => k_is)
      (case l_others => k_is)
      (case c_others => k_is)
      (case kp_others => k_is)
      (case n_bare_area => k_is)
      (case l_bare_area => k_is)
      (case c_bare_area => k_is)
      (case kp_bare_area => k_is)
      (case n_check_number => k_is)
      (case l_check_number => k_is)
      (case c_check_number => k_is)
      (case kp_check_number => k_is)
      (case n_check_numbers => k_is)
      (case l_check_numbers => k_is)
      (case c_check_numbers => k_is)
      (case kp_check_numbers => k_is)
      (case f_Floor_left_of => k_is)
      (case fi_Floor_left_of => k_is)
      (case l_Floor_left_of => k_is)
      (case c_Floor_left_of => k_is)
      (case kp_Floor_left_of => k_is)
      (case n_lines_and_lefts => k_is)
      (case l_lines_and_lefts => k_is)
      (case c_lines_and_lefts => k_is)
      (case kp_lines_and_lefts => k_is)
      (case n_line_row => k_is)
      (case l_line_row => k_is)
      (case c_line_row => k_is)
      (case kp_line_row => k_is)
      (case n_check_range => k_is)
      (case l_check_range => k_is)
      (case c_check_range => k_is)
      (case kp_check_range => k_is)
      (case n_choose => k_is)
      (case l_choose => k_is)
      (case c_choose => k_is)
      (case kp_choose => k_is)
      (case n_first_behind => k_is)
      (case l_first_behind => k_is)
      (case c_first_behind => k_is)
      (case kp_first_behind => k_is)
      (case n_subset_list => k_is)
      (case l_subset_list => k_is)
      (case c_subset_list => k_is)
      (case kp_subset_list => k_is)
      (case n_is_within => k_is)
      (case l_is_within => k_is)
      (case c_is_within => k_is)
      (case kp_is_within => k_is)
      (case n_is_around => k_is)
      (case l_is_around => k_is)
      (case c_is_around => k_is)
      (case kp_is_around => k_is)
      (case n_inner_pairs => k_is)
      (case l_inner_pairs => k_is)
      (case c_inner_pairs => k_is)
      (case kp_inner_pairs => k_is)
      (case n_convex_fours => k_is)
      (case l_convex_fours => k_is)
      (case c_convex_fours => k_is)
      (case kp_convex_fours => k_is)
      (case n_check_turns => k_is)
      (case l_check_turns => k_is)
      (case c_check_turns => k_is)
      (case kp_check_turns => k_is)
      (case n_check_point => k_is)
      (case l_check_point => k_is)
      (case c_check_point => k_is)
      (case kp_check_point => k_is)
      (case n_check_count => k_is)
      (case l_check_count => k_is)
      (case c_check_count => k_is)
      (case kp_check_count => k_is)
      (case f_Floor___init__ => k_is)
      (case fi_Floor___init__ => k_is)
      (case l_Floor___init__ => k_is)
      (case c_Floor___init__ => k_is)
      (case kp_Floor___init__ => k_is)
      (case mk_Floor => k_is)
      (case kc_Floor => k_is)
      (case f_Floor_only => k_is)
      (case fi_Floor_only => k_is)
      (case l_Floor_only => k_is)
      (case c_Floor_only => k_is)
      (case kp_Floor_only => k_is)
      (case n__law_five_holds => k_is)
      (case l__law_five_holds => k_is)
      (case c__law_five_holds => k_is)
      (case kp__law_five_holds => k_is)
      (case n__law_order => k_is)
      (case l__law_order => k_is)
      (case c__law_order => k_is)
      (case kp__law_order => k_is)
      (case n__law_cell => k_is)
      (case l__law_cell => k_is)
      (case c__law_cell => k_is)
      (case kp__law_cell => k_is)
      (case n__law_area => k_is)
      (case l__law_area => k_is)
      (case c__law_area => k_is)
      (case kp__law_area => k_is)
      (case n__law_is_within => k_is)
      (case l__law_is_within => k_is)
      (case c__law_is_within => k_is)
      (case kp__law_is_within => k_is)
      (case n__law_pairs => k_is)
      (case l__law_pairs => k_is)
      (case c__law_pairs => k_is)
      (case kp__law_pairs => k_is)
      (case n__law_made => k_is)
      (case l__law_made => k_is)
      (case c__law_made => k_is)
      (case kp__law_made => k_is)
      (case n__law_refusal => k_is)
      (case l__law_refusal => k_is)
      (case c__law_refusal => k_is)
      (case kp__law_refusal => k_is)
      (case n__law_drawn => k_is)
      (case l__law_drawn => k_is)
      (case c__law_drawn => k_is)
      (case kp__law_drawn => k_is)
      (case n_law => k_is)
      (case l_law => k_is)
      (case c_law => k_is)
      (case kp_law => k_is)
      (case n_comb => k_is)
      (case z_ValueError => k_is)
      (case z_abs => k_is)
      (case z_bool => k_is)
      (case z_enumerate => k_is)
      (case z_int => k_is)
      (case z_isinstance => k_is)
      (case z_len => k_is)
      (case z_list => k_is)
      (case z_range => k_is)
      (case z_tuple => k_is)
      (case s_WrongCount_BowlError => k_is)
      (case s_WrongCount_ValueError => k_is)
      (case s_TooFar_BowlError => k_is)
      (case s_TooFar_ValueError => k_is)
      (case s_OnLine_BowlError => k_is)
      (case s_OnLine_ValueError => k_is)
      (case s_WrongCount_WrongCount => k_is)
      (case s_WrongCount_OnLine => k_is)
      (case s_WrongCount_TooFar => k_is)
      (case s_TooFar_TooFar => k_is)
      (case s_TooFar_OnLine => k_is)
      (case s_TooFar_WrongCount => k_is)
      (case s_OnLine_OnLine => k_is)
      (case s_OnLine_TooFar => k_is)
      (case s_OnLine_WrongCount => k_is)

