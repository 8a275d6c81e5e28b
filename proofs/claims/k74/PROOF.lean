import PyProof.Rows.All
import Wide.All
import OpenK.AllK
import Wide.FinOn
import HandS.ForMost
import HandS.ForExc
import HandS.IsInst
import HandS.ExcInit
import HandS.Lambda
import HandS.Property
import HandS.ClsMeth
import HandS.Wide
import HandS.WideMore
import HandS.Style
import HandS.Flow
import HandS.OwnEq
import HandS.ExcIs
import HandS.ExcField
import HandS.ExcValue
import HandS.MakeKw
import HandS.Defaults
import HandS.Star
import HandS.EndTab
import HandS.Gcd
import HandS.StrMore
import HandS.StrSplit
import HandS.FStr
import HandS.Deep
import HandS.DeepEq
import HandS.SetKeys
import HandS.DictComp
import HandS.Conv
import HandS.Codes
import HandS.Zip
import HandS.SortInts
import HandS.TupAny
import HandS.Evl
import HandS.Steps
import KE.KExcIs
import KE.KOpsOwn
import HandS.Walk
import KE.IntTextText
import KE.KCallOwn
import HandS.MakeKwOnly
import HandS.Head3
import HandS.HeadHook4
import HandS.HeadWalk
import PySem.Challenge.RW_creditturns_k74_promises_made_and_read
set_option Elab.async false
set_option linter.all false
set_option maxRecDepth 100000
set_option maxHeartbeats 4000000
namespace CT
open PySem PySem.Spec PyProof.Rows L2
abbrev St := L2.St

/-! ### caught exceptions that outlive their clause -/
/-- a caught exception stands at a: its class, the address of its own dict -/
def ExK (cls : Value) (d : Option Addr) (a : Addr) : HO :=
  .ext fun h => ∃ (oe : Obj) (vs : Array Value), h.get? a = some oe ∧ Zc cls d oe ∧ oe.data = .fields vs
theorem exK_ok {P : Program} {w : World} {H : Hp} {h : Heap} {a : Addr} {cls : Value} {d : Option Addr} {oe : Obj} {vs : Array Value}
    (e : h.get? a = some oe) (z : Zc cls d oe) (dd : oe.data = .fields vs) : ObjOk P w H h a (ExK cls d a) :=
  ⟨⟨oe, vs, e, z, dd⟩, ⟨oe, e⟩, fun _ _ ⟨o, v, q, r⟩ k => ⟨o, v, k o q, r⟩⟩
theorem exK_at {P : Program} {w : World} {H : Hp} {h : Heap} {a : Addr} {cls : Value} {d : Option Addr} (hok : HOk P w H h) (e : H a = some (ExK cls d a)) :
    ∃ (oe : Obj) (vs : Array Value), h.get? a = some oe ∧ Zc cls d oe ∧ oe.data = .fields vs := by
  have x := hok a _ e
  have x' : ObjOk P w H h a (.ext fun h => ∃ (oe : Obj) (vs : Array Value), h.get? a = some oe ∧ Zc cls d oe ∧ oe.data = .fields vs) := x
  exact x'.1

/-- an object that is there, made since the entry, is tracked from now on -/
theorem track {X : Cx} {pins : List (Addr × Obj)} {σ : St} {H : Hp} {s : Shared} {a : Addr} {o : HO} (I : Inv X pins σ H s) (hn : H a = none)
    (n0 : X.s_0.heap.get? a = none) (nL : a ≠ X.env.locals) (np : ∀ p ∈ X.pn ++ pins, p.1 ≠ a) (nc : ∀ x c, X.env.cells.lookup x = some c → c ≠ a)
    (new : ObjOk X.prog X.w (upd H a o) s.heap a o) : Inv X pins σ (upd H a o) s := by
  have ne0 : ∀ b u, X.s_0.heap.get? b = some u → b ≠ a := fun b u e z => by
    rw [z, n0] at e
    cases e
  refine ⟨I.ok, I.os, I.bare, ⟨I.base.keep, I.base.slot, fun b u e n hx => ?_, I.base.there, fun b xs e => ?_, fun b u v e => ?_, fun b ps e => ?_⟩, I.loc, I.cell, ?_, fun x c e => ?_, fun p hp => ?_, I.hok.laidN (fun _ _ q => q) hn new, I.len⟩
  · exact (upd_ne (ne0 b u e)).trans (I.base.free b u e n hx)
  · have q := I.base.tups b xs e
    rw [upd_ne (ne_of_none q hn)]
    exact q
  · have q := I.base.frzs b u v e
    rw [upd_ne (ne_of_none q hn)]
    exact q
  · obtain ⟨m, q⟩ := I.base.tbls b ps e
    exact ⟨m, by rw [upd_ne (ne_of_none q hn)]; exact q⟩
  · rw [upd_ne (Ne.symm nL)]
    exact I.free
  · rw [upd_ne (nc x c e)]
    exact I.freeC x c e
  · obtain ⟨h1, h2, h3⟩ := I.pin p hp
    exact ⟨h1, by rw [upd_ne (np p hp)]; exact h2, h3⟩

/-- what the clause 'except x as n' wishes, where the exception stays tracked behind the suite -/
def wKeep (K : PySem.W.Frag) (c : Value) (i : Nat) (ts : Addr → Value → Option Addr → TS) (Wout : WX) (D : Ends) : WX := fun cls d σ H =>
  ∃ b, PySem.W.exmOne K cls c = some b ∧
    (b = true → ∀ a, H a = none → ts a cls d
      { nx := fun σ' H' => D.nx (σ'.set i none) (upd H' a (ExK cls d a)), rt := fun v H' => D.rt v (upd H' a (ExK cls d a)),
        bk := fun σ' H' => D.bk (σ'.set i none) (upd H' a (ExK cls d a)), ct := fun σ' H' => D.ct (σ'.set i none) (upd H' a (ExK cls d a)) }
      (σ.set i (some (.ref a))) H) ∧
    (b = false → Wout cls d σ H)

/-- an address that no frame, pin, cell or older object has -/
structure Apart (X : Cx) (pins : List (Addr × Obj)) (a : Addr) : Prop where
  loc : a ≠ X.env.locals
  fra : a ∉ X.fs
  old : X.s_0.heap.get? a = none
  pin : ∀ p ∈ X.pn ++ pins, p.1 ≠ a
  cel : ∀ y k, X.env.cells.lookup y = some k → k ≠ a

/-- the exception a (class cls, dict d) has come down before a clause of X; g: the state without it, B: its ground -/
structure Fallen (X : Cx) (B : Heap) (g : Shared) (pins : List (Addr × Obj)) (σ : St) (H : Hp) (a : Addr) (cls : Value) (d : Option Addr) (s : Shared) : Prop where
  frm : X.stack = X.env :: X.outer
  loc : X.env.frame = some X.env.locals
  inv : Inv X pins σ H g
  gnd : ∀ b o, g.heap.get? b = some o → b ∉ frs X.stack → B.get? b = some o
  upt : g.heap.UpToSlots s.heap
  oss : s.os = g.os
  gns : AllBare s.gens
  fly : HandSPX.FlyingZ B X.stack a (Zc cls d) s.heap
  new : H a = none
namespace Fallen
variable {X : Cx} {B : Heap} {g s : Shared} {pins : List (Addr × Obj)} {σ : St} {H : Hp} {a : Addr} {cls : Value} {d : Option Addr}
theorem now (F : Fallen X B g pins σ H a cls d s) : Inv X pins σ H s := F.inv.landed F.gnd F.fly.1 F.upt F.oss F.gns
theorem to (F : Fallen X B g pins σ H a cls d s) {h : Heap} (fly : HandSPX.FlyingZ B X.stack a (Zc cls d) h) (u : s.heap.UpToSlots h) :
    Fallen X B g pins σ H a cls d { s with heap := h } :=
  { F with upt := F.upt.trans u, oss := F.oss, gns := F.gns, fly := fly }
/-- frames hold no fields -/
theorem out (F : Fallen X B g pins σ H a cls d s) : a ∉ frs X.stack := by
  intro inn
  obtain ⟨o, vs, there, -, dd⟩ := F.fly.there
  rcases F.fly.2.2.1.mem inn with ⟨_, q, there', no⟩
  obtain rfl : o = q := Option.some.inj (there.symm.trans there')
  exact no vs dd
/-- what stands without the exception stands elsewhere -/
theorem els (F : Fallen X B g pins σ H a cls d s) {b : Addr} {o : Obj} (e : g.heap.get? b = some o) : b ≠ a := by
  rintro rfl
  have q := (F.gnd b o e F.out).symm.trans F.fly.2.1
  exact nomatch q
theorem apart (F : Fallen X B g pins σ H a cls d s) (hex : X.ex = []) : Apart X pins a where
  loc := by
    rintro rfl
    refine F.out ?_
    rw [F.frm]
    exact List.mem_filterMap.mpr ⟨X.env, List.mem_cons.mpr (.inl rfl), F.loc⟩
  fra := fun inn => by
    rcases List.mem_filterMap.mp inn with ⟨en, at', q⟩
    refine F.out ?_
    rw [F.frm]
    exact List.mem_filterMap.mpr ⟨en, List.mem_cons.mpr (.inr at'), q⟩
  old := Option.eq_none_iff_forall_ne_some.mpr fun o e => by
    obtain ⟨o', q⟩ := F.inv.base.there a o e (hex ▸ List.not_mem_nil)
    exact F.els q rfl
  pin := fun p at' => F.els (F.inv.pin p at').1
  cel := fun y k e => by
    obtain ⟨_, _, q, _⟩ := F.inv.cell y k e
    exact F.els q
/-- the suite of the clause begins -/
theorem suit (F : Fallen X B g pins σ H a cls d s) (ap : Apart X pins a) : ∃ oe vs, s.heap.get? a = some oe ∧ Zc cls d oe ∧ oe.data = .fields vs ∧
    Inv (X.suite a ((a, oe) :: (X.pn ++ pins))) [] σ H s := by
  obtain ⟨oe, vs, e, z, dd⟩ := F.fly.there
  exact ⟨oe, vs, e, z, dd, F.now.suite e dd F.new ap.loc ap.fra⟩
/-- the clause's class is read, and the exception is held against it -/
theorem asked (F : Fallen X B g pins σ H a cls d s) (ap : Apart X pins a) {x : Str} {c : Value} {np : Pos} {yes : Bool} {Q : Bool → Shared → Prop} {E : Value → Shared → Prop}
    (hc : Names X x c) (m : PySem.W.exmOne X.K cls c = some yes) (q : Q yes s) :
    wpAny (model X.prog X.w) (X.A.mark (some (.ref a))) (eval (.Name x np) X.env) (fun k s1 => wpAny (model X.prog X.w) (X.A.mark (some (.ref a))) (excMatches (.ref a) k) Q E s1) E s := by
  obtain ⟨oe, vs, e, z, _, S⟩ := F.suit ap
  have kind : PySem.W.Looks (model X.prog X.w) s.heap (typeOf (.ref a)) cls := fun _ _ _ _ k r => wpAny_typeOf_ref (k _ _ e) (z.1.symm ▸ r)
  have last := (PySem.W.exm_one (M := model X.prog X.w) F.now.kIn kind m).here (A := X.A.mark (some (.ref a))) (E := E) q
  rcases hc with ⟨hg, nd, own | ⟨own, blt, nn⟩⟩
  · exact ld_glob (X := X.suite a ((a, oe) :: (X.pn ++ pins))) S hg own last nd
  · exact ld_blt (X := X.suite a ((a, oe) :: (X.pn ++ pins))) S hg own blt last nn nd
/-- no clause takes it: on it flies -/
theorem onward (F : Fallen X B g pins σ H a cls d s) {Wout : WX} {Q : Flow → Shared → Prop} (tk : Takes X Wout) (w : Wout cls d σ H) :
    wpAny (model X.prog X.w) X.A (handleBy (.ref a) X.env []) Q X.xe s := by
  have rise : wpAny (model X.prog X.w) X.A (setFlight (.ref a) X.env.frame) (fun _ s1 => wpAny (model X.prog X.w) X.A (throw (.ref a) : Sem Flow) Q X.xe s1) X.xe s := by
    rw [F.loc]
    exact HandSPX.setFlight_upZ F.fly fun h1 held u1 => wpAny_throw (tk _ _
      ⟨a, B, g, pins, σ, H, cls, d, rfl, F.inv, F.gnd, F.upt.trans u1, .inr (.inr held), F.new, F.oss, F.gns, w⟩)
  obtain ⟨oe, vs, T, _, _, e, _, dd, at1, _⟩ := F.fly.2.2.2
  refine wpAny_handleBy_nil ?_
  unfold PySem.passOn
  have some1 : ((Value.ref T == Value.none) = true) = False := by simp
  refine wpAny_bind (wpAny_field e dd at1 ?_)
  simp only [some1, if_false]
  first
    | exact wpAny_bind rise
    | exact wpAny_bind (wpAny_pure (wpAny_bind rise))
end Fallen

section
variable {X : Cx} {x n : Str} {c : Value} {i : Nat} {body suite : List Stmt} {b0 : Stmt} {np pos pos' : Pos} {tb : WX → TS}
  {ts : Addr → Value → Option Addr → TS} {Wout : WX}
theorem ps_try_keep (hs : X.stack = X.env :: X.outer) (hf : X.env.frame = some X.env.locals) (hex : X.ex = []) (hN : X.N.Nodup) (hi : X.N[i]? = some n)
    (hln : X.env.kindOf n = some .local) (hc : Names X x c) (tk : Takes X Wout)
    (hb : ∀ (W : WX) (pn : List (Addr × Obj)) (xe : Value → Shared → Prop), Takes (X.tr pn xe) W →
      PassesOwn (model X.prog X.w) X.A X.env xe → PSs (X.tr pn xe) body (tb W))
    (hsu : ∀ (a : Addr) (oe : Obj) (cls : Value) (d : Option Addr) (pn : List (Addr × Obj)), Zc cls d oe → (∃ vs, oe.data = .fields vs) →
      PSs (X.suite a ((a, oe) :: pn)) (b0 :: suite) (ts a cls d)) :
    PS X (.Try body [.ExceptHandler (some (.Name x np)) (some n) (b0 :: suite) pos'] [] [] pos) (fun D σ H => tb (wKeep X.K c i ts Wout D) D σ H) := by
  constructor
  intro pins s0 σ0 H0 D I0 begin0
  -- the clause, before an exception that has come down
  have clause : ∀ {B g σ H a cls d s}, Fallen X B g pins σ H a cls d s → wKeep X.K c i ts Wout D cls d σ H →
      wpAny (model X.prog X.w) X.A (handleBy (.ref a) X.env [.ExceptHandler (some (.Name x np)) (some n) (b0 :: suite) pos']) (SP X pins D) X.xe s := by
    intro B g σ H a cls d s F ⟨yes, mt, isIt, isnt⟩
    have ap := F.apart hex
    refine wpAny_handleBy_cons (codeAny_handlers_test (F.asked ap hc mt ?_)) nofun
    cases yes
    · exact F.onward tk (isnt rfl)
    refine codeAny_handlers_suite_as (HandSPX.lands_againZ F.fly fun h1 fly1 u1 => ?_)
    obtain ⟨oe, vs, _, z, dd, S⟩ := (F.to fly1 u1).suit ap
    refine store_ok (X := X.suite a ((a, oe) :: (X.pn ++ pins))) (v := .ref a) S hN hi (.inl hln) rfl (fun s2 S2 => ?_) (.inr hln)
    -- behind the suite: the name goes, the exception is tracked
    have close : ∀ {σ' H' s'} {Q : Shared → Prop}, Inv (X.suite a ((a, oe) :: (X.pn ++ pins))) [] σ' H' s' →
        (∀ s'', Inv X pins (σ'.set i none) (upd H' a (ExK cls d a)) s'' → Q s'') →
        wpAny (model X.prog X.w) X.A (do bindName X.env n .none; unbindBehindTheSuite X.env n pos') (fun _ s'' => Q s'') X.xe s' := by
      intro σ' H' s' Q S' q
      have p0 := S'.pin (a, oe) (List.mem_append.mpr (.inl (List.mem_cons.mpr (.inl rfl))))
      exact gone_ok (track (S'.unsuite I0.ok) p0.2.1 ap.old ap.loc ap.pin ap.cel (exK_ok p0.1 z dd)) hN hi hln q
    refine wpAny_mono ((hsu a oe cls d _ z ⟨vs, dd⟩).run [] s2 _ H _ S2 (isIt rfl a F.new)) (fun f s3 end3 => ?_) (fun _ _ no => no.elim)
    cases f <;> first
      | (obtain ⟨_, _, S3, q⟩ := end3; exact close S3 fun _ J => ⟨_, _, J, q⟩)
      | (obtain ⟨_, _, _, S3, r, q⟩ := end3; exact close S3 fun _ J => ⟨_, _, _, J, r, q⟩)
  -- an exception of the body comes down
  have caught : Takes (X.tr (X.pn ++ pins) fun u s => wpAny (model X.prog X.w) X.A (noteFrame u X.env) (fun _ s1 => wpAny (model X.prog X.w) X.A (setFlight u none) (fun _ s2 =>
      wpAny (model X.prog X.w) X.A (handleBy u X.env [.ExceptHandler (some (.Name x np)) (some n) (b0 :: suite) pos']) (SP X pins D) X.xe s2) X.xe s1) X.xe s)
      (wKeep X.K c i ts Wout D) := by
    rintro u s ⟨a, B, g, pins', σ, H, cls, d, rfl, J, gnd, u0, sky, new, oss, gns, w⟩
    have sky1 : Sky B (X.env :: X.outer) a (Zc cls d) X.env.locals s.heap := hs ▸ sky
    refine Sky.land (A := X.A) Zc.steady (I0.ok.frames.trans (congrArg some hs)) hf sky1 fun h1 fly1 u1 => ?_
    exact clause { frm := hs, loc := hf, inv := J.ofTry I0.ok, gnd := gnd, upt := u0.trans u1, oss := oss, gns := gns, fly := hs ▸ fly1, new := new } w
  refine wpAny_Try_except (wpAny_mono ((hb _ _ _ caught PassesOwn.looking).run [] s0 σ0 H0 D (I0.toTry _) begin0) (fun f s1 end1 => ?_) fun _ _ q => q)
  cases f with
  | next => exact end1.elim fun σ1 h => h.elim fun H1 ⟨J, q⟩ => wpAny_execs_nil ⟨σ1, H1, J.ofTry I0.ok, q⟩
  | brk => exact end1.elim fun σ1 h => h.elim fun H1 ⟨J, q⟩ => ⟨σ1, H1, J.ofTry I0.ok, q⟩
  | cont => exact end1.elim fun σ1 h => h.elim fun H1 ⟨J, q⟩ => ⟨σ1, H1, J.ofTry I0.ok, q⟩
  | ret u => exact end1.elim fun v h => h.elim fun σ1 h => h.elim fun H1 ⟨J, r, q⟩ => ⟨v, σ1, H1, J.ofTry I0.ok, r, q⟩
end

/-! ### what is read off a caught exception -/
/-- e.f -/
def tXk (K : PySem.W.Frag) (f : Str) (te : TE) : TE := fun σ H Q => te σ H fun x H1 => ∃ (a C dd : Addr) (fs : List (Str × V)) (v : V),
  x = .ref a ∧ H1 a = some (ExK (.ref C) (some dd) a) ∧ XfC K C ∧ PySem.W.findIn K (.ref C) f = some none ∧ H1 dd = some (.xd fs) ∧ fs.lookup f = some v ∧ Q v H1
theorem pe_xk {X : Cx} {e : Expr} {te : TE} {pos : Pos} {f : Str} (he : PE X e te) (hb : attributeBase e f X.env (eval e X.env) = eval e X.env := by rfl) :
    PE X (.Attribute e f pos) (tXk X.K f te) := by
  refine ⟨fun pins s σ H Q I h => ?_⟩
  refine attr_of hb (thn (he.run pins s σ H _ I h) fun u s1 hh => ?_)
  obtain ⟨x, H1, I1, rx, a, C, dd, fs, v, ex, ea, T, hno, ed, l, q⟩ := hh
  subst ex
  obtain rfl : u = Value.ref a := rx
  obtain ⟨oe, vs, ha, hz, hd⟩ := exK_at I1.hok ea
  have hx : ObjOk X.prog X.w H1 s1.heap dd (.xd fs) := I1.hok dd _ ed
  obtain ⟨mA, hns, hr⟩ := hx
  obtain ⟨od, ho, hl⟩ := lookIn_ns hns
  obtain ⟨u, hu, ru⟩ := RelO.some_of (v := v) (o := mA f) (by rw [← l]; exact hr f)
  have J : PySem.W.InstAt s1.heap a oe C (some od) := ⟨ha, hz.1, by unfold PySem.W.notCls; rw [hd] <;> rfl, by rw [hz.2]; exact ho⟩
  exact HandSPX.exc_get I1.kIn J T.ga T.gg T.exC (PySem.W.findObj_own T.hdC hno rfl (by rw [hl, hu])) (handed_of ru) ⟨v, H1, I1.tok _, ru, q⟩
/-- isinstance(e, c) -/
def rIsK (K : PySem.W.Frag) : List V → Hp → VK → Prop := fun xs H Q => ∃ (a D : Addr) (d : Option Addr) (c : V) (cv : Value) (b : Bool),
  xs = [.ref a, c] ∧ H a = some (ExK (.ref D) d a) ∧ (∀ dd, d = some dd → ∃ fs, H dd = some (.xd fs)) ∧ ExcC K D ∧ ClsV c cv ∧
  PySem.W.kitOne K (.ref D) cv = some b ∧ Q (.bl b) H
theorem call_isX {X : Cx} : CallR X (.builtin "isinstance") (rIsK X.K) := by
  intro pins s σ H xs us Q I r h
  obtain ⟨a, D, d, c, cv, b, rfl, ea, hd, C, k, e, q⟩ := h
  obtain ⟨u1, u2, rfl, r1, r2⟩ := vals2 r
  have e2 := k.eq r2
  subst e2
  cases (show u1 = Value.ref a from r1)
  obtain ⟨oe, vs, ha, hz, hv⟩ := exK_at I.hok ea
  have hcl : (PySem.W.clsIn X.K D).isSome = true := by
    obtain ⟨cd, hc, _⟩ := PySem.W.any_some C.hd
    rw [hc]
    rfl
  have J : ∃ od, PySem.W.InstAt s.heap a oe D od := by
    cases d with
    | none => exact ⟨none, ha, hz.1, by unfold PySem.W.notCls; rw [hv] <;> rfl, by rw [hz.2]; trivial⟩
    | some dd =>
      obtain ⟨fs, ed⟩ := hd dd rfl
      obtain ⟨mA, hns, _⟩ := (show ObjOk X.prog X.w H s.heap dd (.xd fs) from I.hok dd _ ed)
      obtain ⟨od, ho, _⟩ := lookIn_ns hns
      exact ⟨some od, ha, hz.1, by unfold PySem.W.notCls; rw [hv] <;> rfl, by rw [hz.2]; exact ho⟩
  obtain ⟨od, J⟩ := J
  exact PySem.W.kia_one (PySem.W.kitx_exc hcl C.hg C.hk C.hs C.ha C.hn C.ht C.hm) I.kIn J e (fun z => nomatch z) fun tk => ⟨.bl b, H, I.kept (t' := tk) fun _ _ z => z, rfl, q⟩
end CT
namespace CT
open PySem PySem.Spec PyProof.Rows L2

/-! ### comparisons by a class's own methods, the other operand any value of a known kind -/
theorem cmp_back {X : Cx} {pins : List (Addr × Obj)} {σ : St} {Q : VK} {v : V} {u : Value} {s' : Shared} (r : RelV v u) (h : EP X pins σ Q u s') :
    PySem.W.CmpBack (EP X pins σ Q) u s' := by
  cases u with
  | notImplemented =>
    cases v <;> first
      | (have z : Value.notImplemented = _ := r; cases z)
      | (obtain ⟨t, z⟩ := r; cases z)
  | _ => exact h
def rOwnC (K : PySem.W.Frag) (C : Addr) (sp : Sp) (E : XK) : R2 := fun x y H Q => ∃ a dx fs t, x = .ref a ∧ H a = some (.ins C dx fs) ∧ TyX K H y t ∧
  PySem.W.notFirst K C t = true ∧ sp [x, y] H Q E
section
variable {X : Cx} {CX : CXT} {n : Nat} {C g : Addr} {fd : FuncData} {ps : List Str} {sp : Sp} {E : XK}
theorem op_ownC {op : CmpOp} (hop : ∀ a b, compareOp op a b = richCompare op a b) (hs : PySem.W.findIn X.K (.ref C) (cmpInfo op).2.1 = some (some (.ref g)))
    (hf : PySem.W.isFn X.K (.ref g) = true) (F : FnOk X.prog X.w X.K X.mg X.base CX n g fd ps sp) (hb : Binds X.K fd ps []) (hr : Room n X.A) (hx : Passes CX X E) :
    OpR X (compareOp op) (rOwnC X.K C sp E) := by
  intro pins s σ H x y v u Q I rx ry h
  obtain ⟨a, dx, fs, t, rfl, ha, ty, hn, q⟩ := h
  cases (show v = Value.ref a from rx)
  obtain ⟨mA, J, _⟩ := ins_get I.hok ha
  obtain ⟨od, J, _⟩ := J.look
  obtain ⟨P, Z, hp, _⟩ := kit_of I ry ty
  obtain ⟨m, hF⟩ := I.fr
  rw [hop]
  refine PySem.W.cmp_K (op := op) (tb := t) hr.units0 hF I.ok.mod.kin J (Z.ty _ _ I.kIn hp) hn hs hf ?_
  refine wpAny_mono (run_fn (us := [.ref a, u]) (vs := [.ref a, y]) F hr hb .nil hx I (.cons rfl (.cons ry .nil)) q) (fun w s' z => ?_) fun _ _ x => x
  obtain ⟨z', H', I', rz, qz⟩ := z
  exact cmp_back rz ⟨z', H', I', rz, qz⟩
end

/-! ### != by an own ==, where the class has no != of its own -/
theorem ifBuilt_K {M : Model} {K : PySem.W.Frag} {A : Around} {E : Value → Shared → Prop} {s : Shared} {x C : Addr} {ox : Obj} {od : Option Obj} {T : String} {name : Str} {id : String} {args : List Value} {Q : Option Value → Shared → Prop}
    (X : K.In s.heap) (I : PySem.W.InstAt s.heap x ox C od) (hs : PySem.W.findIn K (.ref C) name = some (some (.builtin id))) (S : Slot T name id)
    (h : wpAny M A (call (.builtin id) (.ref x :: args)) (fun v => Q (some v)) E s) : wpAny M A (callSpecialIfBound? (.ref x) name args) Q E s := by
  simp only [callSpecialIfBound?, bindSpecialIfBound?]
  refine wpAny_holding (wpAny_bind (wpAny_bind (wpAny_bind (I.type.here ((PySem.W.looks_findIn X hs).here ?_)))))
  simp only [S.bind]
  refine wpAny_bind (wpAny_askSetting (wpAny_ite ?_))
  have fin : wpAny M A (call (.builtin id) ([.ref x] ++ args) >>= fun v => pure (some v)) Q E s :=
    wpAny_bind (wpAny_mono h (fun v s' h' => wpAny_pure h') fun _ _ h' => h')
  split
  · exact wpAny_bind (wpAny_pure (wpAny_pure fin))
  · exact wpAny_tryCatch (wpAny_bind (wpAny_pure (wpAny_pure fin)))
section
variable {prog : Program} {w : World} {A : Around} {E : Value → Shared → Prop} {s : Shared} {K : PySem.W.Frag} {x C f L : Addr} {ox : Obj} {od : Option Obj} {b tb : Value} {h0 : Heap} {m : Str → Option Value}
theorem ne_K {Q : Value → Shared → Prop} (hu : A.units + 1 < cLine) (FF : PyProof.Rows.Fr h0 L s.heap m) (X0 : K.In h0) (I : PySem.W.InstAt s.heap x ox C od)
    (hb : PySem.W.Looks (model prog w) s.heap (typeOf b) tb) (hn : PySem.W.notFirst K C tb = true) (hne : PySem.W.findIn K (.ref C) "__ne__" = some (some (.builtin "object.__ne__")))
    (hs : PySem.W.findIn K (.ref C) "__eq__" = some (some (.ref f))) (hf : PySem.W.isFn K (.ref f) = true) (hm : PySem.W.mroIn K C (.type "object") = some true)
    (h : wpAny (model prog w) A.in1 (call (.ref f) [.ref x, b]) (fun v s' => ∃ r, v = .bool r ∧ Q (.bool (!r)) s') E s) :
    wpAny (model prog w) A (richCompare .NotEq (.ref x) b) Q E s := by
  have X := X0.keeps FF.keep
  have sub : PySem.W.Looks (model prog w) s.heap (isInstance (.ref x) (.type "object")) true := I.type.andThen (PySem.W.looks_mroIn X hm)
  have one : wpAny (model prog w) A (tryCompare (.ref x) (cmpInfo .NotEq).2.1 b) (fun r s' => ∃ v, r = some v ∧ Q v s') E s := by
    unfold tryCompare
    refine wpAny_bind (ifBuilt_K X I hne F.cmp_object.ne (wpAny_call (codeAny_call_builtin F.cmp_object.ne.plain F.cmpEntry_ne
      (PySem.W.check_slot F.cmpKind_ne F.cmpSplit_ne sub (F.cmpArgs_ne _ _) ?_))))
    unfold Builtin.«object.__ne__»
    refine wpAny_bind (wpAny_of_eq (a := ((Value.ref x : Value), [b])) (by first | rfl | (simp only [slotArgs]; rfl)) ?_)
    dsimp only
    refine wpAny_bind (wpAny_cRoomFor (show A.in1.units < cLine from hu) ?_)
    refine wpAny_bind (PySem.W.ifBound_K X I hs hf (wpAny_mono h (fun v s' hv => ?_) fun _ _ e => e))
    obtain ⟨r, rfl, hq⟩ := hv
    dsimp only
    refine wpAny_bind (wpAny_truthy_bool ?_)
    first
      | exact wpAny_pure ⟨_, rfl, hq⟩
      | exact wpAny_pure (wpAny_pure ⟨_, rfl, hq⟩)
      | (unfold Builtin.ret; exact wpAny_pure ⟨_, rfl, hq⟩)
  unfold richCompare
  simp only [oneThing_ref]
  refine wpAny_holding (wpAny_bind (wpAny_cRoomFor (Nat.lt_of_succ_lt hu) ?_))
  refine wpAny_bind (I.type.here (wpAny_bind (hb.here ?_)))
  split
  · rename_i q
    have e : PySem.W.subIn K tb (.ref C) = some false := by
      rcases Bool.or_eq_true_iff.mp hn with e | e
      · rw [beq_iff_eq.mp e] at q; simp at q
      · exact beq_iff_eq.mp e
    refine wpAny_bind ((PySem.W.looks_subIn X e).here ?_)
    simp only [Bool.false_eq_true, if_false]
    refine wpAny_bind (wpAny_mono one (fun r s' z => ?_) fun _ _ e => e)
    obtain ⟨v, rfl, hq⟩ := z
    exact wpAny_pure hq
  · refine wpAny_bind (wpAny_pure ?_)
    simp only [Bool.false_eq_true, if_false]
    refine wpAny_bind (wpAny_mono one (fun r s' z => ?_) fun _ _ e => e)
    obtain ⟨v, rfl, hq⟩ := z
    exact wpAny_pure hq
end

section
variable {X : Cx} {CX : CXT} {n : Nat} {C g : Addr} {fd : FuncData} {ps : List Str} {sp : Sp} {E : XK}
/-- x != y: what the own == answers, turned round -/
def rNeC (K : PySem.W.Frag) (C : Addr) (sp : Sp) (E : XK) : R2 := fun x y H Q => ∃ a dx fs t, x = .ref a ∧ H a = some (.ins C dx fs) ∧ TyX K H y t ∧
  PySem.W.notFirst K C t = true ∧ sp [x, y] H (fun v H' => ∃ r, v = .bl r ∧ Q (.bl (!r)) H') E
theorem op_neC (hne : PySem.W.findIn X.K (.ref C) "__ne__" = some (some (.builtin "object.__ne__"))) (hm : PySem.W.mroIn X.K C (.type "object") = some true)
    (hs : PySem.W.findIn X.K (.ref C) "__eq__" = some (some (.ref g))) (hf : PySem.W.isFn X.K (.ref g) = true) (F : FnOk X.prog X.w X.K X.mg X.base CX n g fd ps sp) (hb : Binds X.K fd ps [])
    (hr : Room (n + 1) X.A) (hx : Passes CX X E) : OpR X (compareOp .NotEq) (rNeC X.K C sp E) := by
  intro pins s σ H x y v u Q I rx ry h
  obtain ⟨a, dx, fs, t, rfl, ha, ty, hn, q⟩ := h
  cases (show v = Value.ref a from rx)
  obtain ⟨mA, J, _⟩ := ins_get I.hok ha
  obtain ⟨od, J, _⟩ := J.look
  obtain ⟨P, Z, hp, _⟩ := kit_of I ry ty
  obtain ⟨m, hF⟩ := I.fr
  show wpAny (model X.prog X.w) X.A (richCompare .NotEq (.ref a) u) _ _ s
  refine ne_K (by have := hr.un; omega) hF I.ok.mod.kin J (Z.ty _ _ I.kIn hp) hn hne hs hf hm ?_
  have r2 : Vals [V.ref a, y] [Value.ref a, u] := .cons rfl (.cons ry .nil)
  have hl := F.len _ _ _ _ q
  refine wpAny_call (codeAny_mono (F.run X.A.in1 X.stack s H ⟨[.ref a, u], []⟩ [.ref a, u] [.ref a, y] _ E hr.in1 I.env0.in1 (by
    have z := hb s [.ref a, u] I.kIn (by simpa using hl)
    simpa using z) r2 q) fun r s' hq => ?_)
  cases r with
  | error e => exact hx pins σ H s e s' I hq
  | ok fl =>
    cases fl with
    | ret w =>
      obtain ⟨z, H', I', rz, k, ez, qz⟩ := I.after hq
      subst ez
      cases (show w = Value.bool k from rz)
      exact ⟨k, rfl, .bl (!k), H', I', rfl, qz⟩
    | next => exact False.elim hq
    | brk => exact False.elim hq
    | cont => exact False.elim hq
end

end CT
namespace CT
open PySem PySem.Spec PyProof.Rows L2

/-! ### repr of data, where no repr is under way around -/
/-- repr(x) -/
def rRepr (K : PySem.W.Frag) : List V → Hp → VK → Prop := fun xs H Q => ∃ (x : V) (d : PyData), xs = [x] ∧ Dp K H x d ∧ d.showable = true ∧ d.hasDict = false ∧
  d.depth ≤ 60 ∧ d.shown.length ≤ sizeLine ∧ Q (.str d.shown) H
theorem call_repr {X : Cx} (hg : X.A.guards = some []) (hu : X.A.units + 64 < cLine) : CallR X (.builtin "repr") (rRepr X.K) := by
  intro pins s σ H xs us Q I r h
  obtain ⟨x, d, rfl, hd, sh, nd, dp, sz, q⟩ := h
  cases r with
  | cons rx rr =>
    rename_i u us'
    cases rr
    have fin : ∀ (tk : Tok) (t' : Nat), EP X pins σ Q (.str d.shown tk) { s with toks := t' } := fun tk t' => ⟨.str d.shown, H, I.tok _, ⟨_, rfl⟩, q⟩
    cases hd with
    | non =>
      cases (show u = Value.none from rx)
      exact PySem.P.repr_of_none (fin _ _)
    | bl b =>
      cases (show u = Value.bool b from rx)
      refine PySem.P.repr_of_bool ?_
      cases b <;> exact fin _ _
    | int i =>
      obtain ⟨t, rfl⟩ := (show ∃ t, u = Value.int i t from rx)
      exact PySem.P.repr_of_int (by simpa [PyData.showable] using sh) (fin _ _)
    | str y =>
      obtain ⟨t, rfl⟩ := (show ∃ t, u = Value.str y t from rx)
      exact PySem.P.repr_of_str (fin _ _) sz
    | lst hs ha =>
      rename_i b ys ds
      obtain ⟨as, rd⟩ := Dp.reads I _ _ u (Dp.lst hs ha) rx
      cases (show u = Value.ref b from rx)
      exact repr_of_reads' rd sh (fun z => absurd (nd.symm.trans z) (by decide)) hg (by omega) (fun _ _ e => e) (fun h' tk t' k => ⟨.str _, H, I.kept k, ⟨_, rfl⟩, q⟩) sz
    | tup hs ha =>
      rename_i b ys ds
      obtain ⟨as, rd⟩ := Dp.reads I _ _ u (Dp.tup hs ha) rx
      cases (show u = Value.ref b from rx)
      exact repr_of_reads' rd sh (fun z => absurd (nd.symm.trans z) (by decide)) hg (by omega) (fun _ _ e => e) (fun h' tk t' k => ⟨.str _, H, I.kept k, ⟨_, rfl⟩, q⟩) sz

/-! ### defs that ask for reprs: their promise holds where no repr is under way -/
structure FnOkG (P : Program) (w : World) (K : PySem.W.Frag) (mg : Str → Option Value) (base : Heap) (CX : CXT) (k : Nat) (f : Addr) (fd : FuncData) (ps : List Str) (sp : Sp) : Prop where
  len : ∀ vs H Q E, sp vs H Q E → vs.length = ps.length
  run : ∀ (A : Around) (outer : List Env) (s : Shared) (H : Hp) (args : Args) (us : List Value) (vs : List V) (Q : VK) (E : XK), Room k A → A.guards = some [] →
    Env0 P w K mg base A outer s H → BindsTo s fd args (ps.zip us) → Vals vs us → sp vs H Q E → codeAny (model P w) A (.call (.ref f) args) (CR CX outer P w H s Q E) s
theorem _root_.L2.FnOk.toG {P : Program} {w : World} {K : PySem.W.Frag} {mg : Str → Option Value} {base : Heap} {CX : CXT} {k : Nat} {f : Addr} {fd : FuncData} {ps : List Str} {sp : Sp}
    (F : FnOk P w K mg base CX k f fd ps sp) : FnOkG P w K mg base CX k f fd ps sp :=
  ⟨F.len, fun A outer s H args us vs Q E hr _ => F.run A outer s H args us vs Q E hr⟩
section
variable {X : Cx} {CX : CXT} {k : Nat} {f C : Addr} {fd : FuncData} {ps : List Str} {sp : Sp} {dvs : List V} {ds : List Value} {E : XK} {x : Str} {p pos : Pos} {e : Expr} {es : List Expr} {t : TA}
theorem run_fnG {pins : List (Addr × Obj)} {σ : St} {H : Hp} {s : Shared} {Q : VK} {us : List Value} {vs : List V} (F : FnOkG X.prog X.w X.K X.mg X.base CX k f fd ps sp)
    (hr : Room k X.A) (hgd : X.A.guards = some []) (hb : Binds X.K fd ps ds) (hd : Vals dvs ds) (hx : Passes CX X E)
    (I : Inv X pins σ H s) (r : Vals vs us) (h : sp (vs ++ dvs) H Q E) : wpAny (model X.prog X.w) X.A (call (.ref f) us) (EP X pins σ Q) X.xe s := by
  have r2 := r.append hd
  have hl : (us ++ ds).length = ps.length := by
    rw [← r2.length]
    exact F.len _ _ _ _ h
  have c := F.run X.A X.stack s H ⟨us, []⟩ (us ++ ds) (vs ++ dvs) Q E hr hgd I.env0 (hb s us I.kIn hl) r2 h
  refine wpAny_call (codeAny_mono c fun r s' hq => ?_)
  match r, hq with
  | .error e, hq => exact hx pins σ H s e s' I hq
  | .ok (.ret u), hq => exact I.after hq
  | .ok .next, hq => exact False.elim hq
  | .ok .brk, hq => exact False.elim hq
  | .ok .cont, hq => exact False.elim hq
theorem pe_callG (F : FnOkG X.prog X.w X.K X.mg X.base CX k f fd ps sp) (hr : Room k X.A) (hgd : X.A.guards = some []) (hg : Gl X x) (hm : X.mg x = some (.ref f))
    (hk : PySem.W.keepIn X.K (.ref f) = true) (hb : Binds X.K fd ps ds) (hd : Vals dvs ds) (hx : Passes CX X E) (ha : PA X (e :: es) t)
    (hdb : (x == ("__debug__" : Str)) = false := by decide) (he : starEach (e :: es) X.env = (false, eval e X.env) :: starEach es X.env := by rfl)
    (hpl : (backTo pos (starEach es X.env)).any (·.1) = false := by rfl) : PE X (.Call (.Name x p) (e :: es) [] pos) (tCall sp dvs E t) := by
  constructor
  intro pins s σ H Q I h
  refine wpAny_Call_Name_kw (ld_glob I hg hm ?_ hdb)
  refine PySem.W.callWith_K (h₀ := X.base) I.ok.mod.kin hk (thn (ha.run pos pins s σ H _ I h) fun us s1 z => ?_) he hpl
  obtain ⟨vs, H1, I1, r, q⟩ := z
  exact ⟨I1.kIn, run_fnG F hr hgd hb hd hx I1 r q⟩
end
/-- a def by its body, its promise for where no repr is under way -/
theorem _root_.L2.Fun.okG {P : Program} {w : World} {K : PySem.W.Frag} {mg : Str → Option Value} {base : Heap} {x qual : Str} {st : Stmt} {f : Addr} {fd : FuncData} {N ps : List Str} {k : Nat} {sp : Sp}
    (F : L2.Fun K x qual st f fd) (S : FnScope N ps (defScope st)) (len : ∀ vs H Q E, sp vs H Q E → vs.length = ps.length)
    (hbody : ∀ (cdv : Value) (A : Around) (outer : List Env) (s : Shared) (H : Hp) (vs : List V) (Q : VK) (E : XK), A.guards = some [] →
      Room k (A.deeper (envOfC qual (defScope st) s.heap.objs.size f cdv)) → sp vs H Q E →
      ∃ t, PSs (cxOf CX0 P w K mg base N qual (defScope st) f cdv A outer s H E).nox (defBody st) t ∧ t { nx := fun _ H' => Q .non H', rt := Q } (start N vs) H) :
    FnOkG P w K mg base CX0 (k + 1) f fd ps sp := by
  obtain ⟨oc, od, kV, doc, pm, an, cdv, ct, osl, rfl, lk, hcd⟩ := F.ex
  refine ⟨len, fun A outer s H args us vs Q E hr hgd e0 hb r hsp => ?_⟩
  exact LamX.run_ofS (N := N) lk hcd S hr e0 hb r (len _ _ _ _ hsp) fun hr' => by
    obtain ⟨t, h, q⟩ := hbody cdv A outer s H vs Q E hgd hr' hsp
    exact ⟨t, h.nox, q⟩
end CT
namespace CT
open PySem PySem.Spec PyProof.Rows L2

/-! ### the end of a law whose defs ask for reprs; tb: the tables of code objects -/
/-- the abstract heap that the law begins with: the script, locked, and the tables, empty -/
def lawH (K : PySem.W.Frag) (a : Addr) (vs : Array Value) (ns : List Int) (tb : List Addr) : Hp := fun b =>
  if b = a ∧ K.lookup a = none then some (.frz { cls := .type "list", data := .seq vs } (.lst (ns.map V.int)))
  else if b ∈ tb then some (.tbl #[]) else none
section
variable {P : Program} {w : World} {K : PySem.W.Frag} {mg mb : Str → Option Value} {CX : CXT} {k : Nat} {fa a : Addr} {cs : List (Addr × Addr)} {fd : FuncData} {x : Str} {sp : Sp}
  {s1 : Shared} {vs : List Value} {ns : List Int}
theorem law_callG (KX : K.In s1.heap) (hns : s1.heap.Ns mainGlobals mg) (hb : s1.heap.Ns builtinsNs mb) (hbb : ∀ x : Str, x ≠ "__name__" → mb x = bootBuiltins x)
    (hlim : s1.heap.NoLimit) (hg : s1.gens = #[]) (hT : ∀ p ∈ cs, s1.heap.get? p.2 = some { cls := .none, data := .fields #[] }) (nT : ∀ p ∈ cs, K.lookup p.2 = none)
    (C : ∀ p ∈ cs, PySem.W.CodeHd s1.heap p.1 p.2)
    (hbm : ∃ (bm : Addr) (ob : Obj), mg "__builtins__" = some (.ref bm) ∧ bm ≠ builtinsNs ∧ s1.heap.get? bm = some ob ∧ ob.cls = .type "module" ∧ ob.dict = some builtinsNs ∧ ob.data = .plain)
    (ha : s1.heap.get? a = some { cls := .type "list", data := .seq vs.toArray }) (hi : IntsAre vs ns) (hl : ns.length ≤ sizeLine) (hr : Room k callerA)
    (F : ∀ base : Heap, K.In base → base.Ns mainGlobals mg → (∀ p ∈ cs, LamX.TabB base mg p.1 p.2) → FnOkG P w K mg base CX k fa fd [x] sp)
    (hbind : ∀ (s : Shared) (u : Value), BindsTo s fd ⟨[u], []⟩ [(x, u)])
    (hsp : ∀ H : Hp, (∀ p ∈ cs, H p.2 = some (.tbl #[])) → SqL K H a (ns.map V.int) → sp [.ref a] H (fun v _ => v = .bl true) fun _ _ _ => False)
    (hCX : ∀ H e s', CX [] H s1 (fun _ _ _ => False) e s' → False) :
    codeAny (model P w) callerA (.call (.ref fa) ⟨[.ref a], []⟩) (fun r s' => r = .ok (.ret (.bool true)) ∧ OldK s1.heap s'.heap ∧ s'.os = s1.os ∧ AllBare s'.gens) s1 := by
  have rv : Vals (ns.map V.int) vs := vals_ints hi
  have lenV := hi.length
  let tb := cs.map (·.2)
  have inT : ∀ b, b ∈ tb → s1.heap.get? b = some { cls := .none, data := .fields #[] } := fun b q => by
    obtain ⟨p, hp, rfl⟩ := List.mem_map.mp q
    exact hT p hp
  have kT : ∀ b, b ∈ tb → K.lookup b = none := fun b q => by
    obtain ⟨p, hp, rfl⟩ := List.mem_map.mp q
    exact nT p hp
  have toT : ∀ p ∈ cs, p.2 ∈ tb := fun p hp => List.mem_map.mpr ⟨p, hp, rfl⟩
  have aNotT : a ∉ tb := fun q => by
    have z := (inT a q).symm.trans ha
    cases z
  let H := lawH K a vs.toArray ns tb
  have Ha : K.lookup a = none → H a = some (.frz { cls := .type "list", data := .seq vs.toArray } (.lst (ns.map V.int))) := fun q => if_pos ⟨rfl, q⟩
  have Ht : ∀ b, b ∈ tb → H b = some (.tbl #[]) := fun b q => by
    have n : ¬ (b = a ∧ K.lookup a = none) := fun z => aNotT (z.1 ▸ q)
    exact (if_neg n).trans (if_pos q)
  have Hn : ∀ b, ¬ (b = a ∧ K.lookup a = none) → b ∉ tb → H b = none := fun b n q => (if_neg n).trans (if_neg q)
  have HS : SqL K H a (ns.map V.int) := by
    cases q : K.lookup a with
    | none => exact .inl (.inr ⟨_, Ha q⟩)
    | some o =>
      have z := (KX a o q).symm.trans ha
      cases z
      exact .inr ⟨_, vs.toArray, _, q, rfl, rfl, rfl, by rw [List.size_toArray, lenV]; exact hl, by simpa using rv⟩
  have Hok : HOk P w H s1.heap := fun b u e => by
    by_cases h1 : b = a ∧ K.lookup a = none
    · obtain ⟨rfl, q⟩ := h1
      rw [Ha q] at e
      cases e
      exact ⟨ha, by rw [List.length_map]; exact hl, vs, _, rv, ha⟩
    · by_cases h2 : b ∈ tb
      · rw [Ht b h2] at e
        cases e
        exact inT b h2
      · rw [Hn b h1 h2] at e
        cases e
  -- what is neither a list nor an empty record of fields isn't tracked
  have off : ∀ {b : Addr} {o : Obj}, s1.heap.get? b = some o → (∀ v n, o.data ≠ .seq v n) → o.data ≠ .fields #[] → H b = none := fun {b o} e n1 n2 => by
    refine Hn b (fun z => ?_) (fun z => ?_)
    · obtain ⟨rfl, _⟩ := z
      rw [ha] at e
      cases e
      exact n1 _ _ rfl
    · rw [inT b z] at e
      cases e
      exact n2 rfl
  have offD : ∀ {b : Addr} {o : Obj} {es : Array DictEntry} {ep : Nat}, s1.heap.get? b = some o → o.data = .dict es ep → H b = none := fun {b o es ep} e d =>
    off e (fun v n z => by rw [d] at z; cases z) (fun z => by rw [d] at z; cases z)
  have toBase : ∀ {b : Addr} {o : Obj}, s1.heap.get? b = some o → H b = none → (hidT s1.heap H).get? b = some o := fun e n => hidT_get e n
  have nsB : ∀ {b : Addr} {m : Str → Option Value}, s1.heap.Ns b m → (hidT s1.heap H).Ns b m := fun {b m} z => by
    obtain ⟨o, es, ep, e, d, r⟩ := z
    exact ⟨o, es, ep, toBase e (offD e d), d, r⟩
  have KB : K.In (hidT s1.heap H) := fun b o e => toBase (KX b o e) (Hn b (fun z => by
      obtain ⟨rfl, q⟩ := z
      rw [q] at e
      cases e) fun z => by
      rw [kT b z] at e
      cases e)
  have MB : Mod K mg (hidT s1.heap H) := ⟨KB, nsB hns, ⟨mb, nsB hb, hbb⟩, by
    obtain ⟨mc, h1, h2⟩ := hlim
    exact ⟨mc, nsB h1, h2⟩⟩
  have TB : ∀ p ∈ cs, LamX.TabB (hidT s1.heap H) mg p.1 p.2 := fun p hp => by
    refine ⟨?_, ?_, fun z => ?_⟩
    · obtain ⟨o, us, file, tf, flags, tg, inF, text, tt, e1, r1, r2, r3, r4, r5, r6, r7, r8, hne⟩ := C p hp
      refine ⟨o, us, file, tf, flags, tg, inF, text, tt, toBase e1 (off e1 (fun v n z => ?_) fun z => ?_), r1, r2, r3, r4, r5, r6, r7, r8, hne⟩
      · rw [r2] at z
        cases z
      · rw [r2] at z
        cases z
        simp at r3
    · obtain ⟨bm, ob, b1, b2, b3, b4, b5, b6⟩ := hbm
      refine ⟨bm, ob, b1, b2, fun q => ?_, fun q => ?_, toBase b3 (off b3 (fun v n z => by rw [b6] at z; cases z) fun z => by rw [b6] at z; cases z), b4, b5, b6⟩
      · obtain ⟨o, es, ep, e, d, _⟩ := hns
        rw [q, e] at b3
        cases b3
        rw [d] at b6
        cases b6
      · rw [q, hT p hp] at b3
        cases b3
        cases b6
    · obtain ⟨o, es, ep, e, d, _⟩ := hns
      rw [z, hT p hp] at e
      cases e
      cases d
  have noFr : ∀ b ∈ frs ([] : List Env), H b = none := fun b z => absurd (show b ∈ ([] : List Addr) from z) (by simp)
  have E0 : Env0 P w K mg (hidT s1.heap H) callerA [] s1 H := ⟨rfl, MB, fun b o e => of_hidT e, Nat.le_of_eq (hidT_size _ _), trivial, noFr, Hok, .of_eq hg⟩
  have run := (F _ KB (nsB hns) TB).run callerA [] s1 H ⟨[.ref a], []⟩ [.ref a] [.ref a] _ _ hr rfl E0 (hbind s1 (.ref a)) (.cons rfl .nil) (hsp H (fun p hp => Ht _ (toT p hp)) HS)
  refine codeAny_mono run fun r s' h => ?_
  match r, h with
  | .error e, h => exact (hCX H e s' h).elim
  | .ok .next, h => exact False.elim h
  | .ok .brk, h => exact False.elim h
  | .ok .cont, h => exact False.elim h
  | .ok (.ret u), h =>
    obtain ⟨v, H', os, bare, un, hok', r', q⟩ := h
    have q' : v = .bl true := q
    subst q'
    obtain rfl : u = Value.bool true := r'
    have stays : ∀ b o, b ∉ tb → s1.heap.get? b = some o → s'.heap.get? b = some o := fun b o nb e => by
      by_cases h1 : b = a ∧ K.lookup a = none
      · obtain ⟨rfl, q⟩ := h1
        obtain ⟨e1, _⟩ := Hok b _ (Ha q)
        obtain ⟨e2, _⟩ := hok' b _ (un.frzs b _ _ (Ha q))
        rw [e1] at e; cases e; exact e2
      · exact un.keep b o e (Hn b h1 nb) (fun z => nomatch z) (fun z => nomatch z)
    have grew : ∀ b, b ∈ tb → ∃ more : Array Value, s'.heap.get? b = some { cls := .none, data := .fields more } := fun b z => by
      obtain ⟨more, y⟩ := un.tbls b #[] (Ht b z)
      exact ⟨_, hok' b _ y⟩
    refine ⟨rfl, ⟨fun b o e => ?_, fun b o e => ?_⟩, os, bare⟩
    · by_cases hbt : b ∈ tb
      · obtain ⟨more, hm⟩ := grew b hbt
        obtain ⟨p, hp, ep⟩ := List.mem_map.mp hbt
        have ct := ((C p hp).tab (hT p hp)).isCodeTable
        rw [ep] at ct
        rw [inT b hbt] at e
        cases e
        exact .inr (.inl ⟨ct, rfl, #[], more, rfl, by rw [Array.empty_append]; exact hm⟩)
      · exact .inl (stays b o hbt e)
    · by_cases hbt : b ∈ tb
      · obtain ⟨more, hm⟩ := grew b hbt
        exact ⟨_, hm⟩
      · exact ⟨o, stays b o hbt e⟩
end
/-- what is known of the law's promise at the head's heap h -/
def LawAtG (l : PySem.W.OpenLaw) (w : World) (K : PySem.W.Frag) (CX : CXT) (k n : Nat) (x : Str) (mg : Str → Option Value) (fa : Addr) (h : Heap) : Prop :=
  ∃ (fd : FuncData) (cs : List (Addr × Addr)) (sp : Sp), (∀ p ∈ cs, h.get? p.2 = some { cls := .none, data := .fields #[] }) ∧ (∀ p ∈ cs, K.lookup p.2 = none) ∧
    (∀ p ∈ cs, PySem.W.CodeHd h p.1 p.2) ∧ (∀ (s : Shared) (u : Value), BindsTo s fd ⟨[u], []⟩ [(x, u)]) ∧
    (∀ (H : Hp) (a : Addr) (ns : List Int), ns.length ≤ n → (∀ z ∈ ns, Builtin.Int.intBits z ≤ 1048576) → (∀ p ∈ cs, H p.2 = some (.tbl #[])) → SqL K H a (ns.map V.int) →
      sp [.ref a] H (fun v _ => v = .bl true) fun _ _ _ => False) ∧
    ∀ base : Heap, K.In base → base.Ns mainGlobals mg → (∀ p ∈ cs, LamX.TabB base mg p.1 p.2) → FnOkG l.prog w K mg base CX k fa fd [x] sp
theorem walk_ofG {l : PySem.W.OpenLaw} {n k : Nat} {q : Program} {loose : List Str} {XP : (Str → Option Value) → Heap → Prop} {YP : World → Heap → Prop} {d : DefRec}
    {K : Params → PySem.W.Frag} {CX : World → CXT} {x : Str} (hn : l.most = some n) (hn2 : n ≤ sizeLine) (hdf : d.params.defaults = []) (hr : Room k callerA)
    (hY : ∀ (w : World) (h : Heap), YP w h → (K w.params).In h)
    (F : ∀ (w : World) (mg : Str → Option Value) (fa : Addr) (h : Heap), YP w h → (K w.params).In h → h.Ns mainGlobals mg → mg d.name = some (.ref fa) →
      LawAtG l w (K w.params) (CX w) k n x mg fa h)
    (hCX : ∀ (w : World) (H : Hp) (s : Shared) (e : Value) (s' : Shared), CX w [] H s (fun _ _ _ => False) e s' → False) :
    PySem.W.WalkO q loose XP YP l.row.toRowW d [] (fun f vs => PySem.call f vs) := by
  refine Att.attach_callB hn hdf fun w s0 s1 mg mb fa o pm cd doc a vs ns G Y ho hd hcd hmg hobj hints hlen hbits hg => ?_
  have KX := hY w _ Y
  obtain ⟨fd, cs, sp, hT, nT, C, hb, hsp, hF⟩ := F w mg fa _ Y KX G.T.g hmg
  exact law_callG KX G.T.g G.T.b G.T.builtins G.T.nolimit hg hT nT C G.T.bmain hobj hints (Nat.le_trans hlen hn2) hr hF hb
    (fun H hH hS => hsp H a ns hlen hbits hH hS) fun H e s' => hCX w H s1 e s'
end CT
namespace CT
open PySem PySem.Spec PyProof.Rows L2
open He (ga ma fAd)

/-! ### facts of the written part, each a Bool that the head's run computes -/
/-- a class by its name -/
inductive Nm where
  | own (x : Str)
  | ty (n : String)
def Nm.val (K : PySem.W.Frag) : Nm → Value
  | .own x => .ref (ga K x)
  | .ty n => .type n
/-- the record of a class, over ValueError, with its own classes between -/
def oexB (K : PySem.W.Frag) (C : Addr) : Bool := match K.lookup C with
  | some ⟨.type "type", _, .cls cd, sl⟩ => (match cd.mro, sl.toList with
    | .ref C' :: bm, [_, _, _, _, some (.builtin n), _] => decide (C' = C) && (decide (n = "ValueError.__new__") && (!cd.hasDel && (cd.hasDict && HandSPX.refsVE bm)))
    | _, _ => false)
  | _ => false
theorem oexB_ok {K : PySem.W.Frag} {C : Addr} (yes : oexB K C = true) : ∃ nm q N bs bm sn sub ab col dd k0 k1 k2 k3 k5,
    K.lookup C = some (excClassObj nm q C N bs bm true sn sub ab col dd k0 k1 k2 k3 k5 "ValueError.__new__") ∧ HandSPX.refsVE bm = true := by
  unfold oexB at yes
  split at yes
  case h_2 => contradiction
  rename_i dd cd sl look
  split at yes
  case h_2 => contradiction
  rename_i C' bm k0 k1 k2 k3 n k5 line rest
  simp only [Bool.and_eq_true, decide_eq_true_eq, Bool.not_eq_true'] at yes
  rcases yes with ⟨own, new, gone, kept, refs⟩
  refine ⟨cd.name, cd.qualname, cd.ns, cd.bases, bm, cd.slotNames, cd.subclasses, cd.abstract, cd.collection, dd, k0, k1, k2, k3, k5, look.trans ?_, refs⟩
  rw [own] at line
  rw [new] at rest
  rcases sl with ⟨_⟩
  cases cd
  cases (show _ = _ from line)
  cases (show _ = _ from rest)
  cases (show _ = _ from gone)
  cases (show _ = _ from kept)
  rfl
/-- a property's record, its getter -/
def propAt (K : PySem.W.Frag) (C : Addr) (f : Str) : Addr := match PySem.W.findIn K (.ref C) f with
  | some (some (.ref p)) => p
  | _ => 0
def recHead (K : PySem.W.Frag) (p : Addr) (T : String) : Addr := match PySem.W.recIn K p T with
  | some (.ref g :: _) => g
  | _ => 0
def recB (K : PySem.W.Frag) (p : Addr) (T : String) : Bool := match PySem.W.recIn K p T with
  | some (.ref _ :: _) => true
  | _ => false
theorem recB_ok {K : PySem.W.Frag} {p : Addr} {T : String} (h : recB K p T = true) : ∃ rest, PySem.W.recIn K p T = some (.ref (recHead K p T) :: rest) := by
  unfold recB at h
  split at h
  · rename_i g rest e
    exact ⟨rest, by unfold recHead; rw [e]⟩
  · cases h
def clsMc (K : PySem.W.Frag) (C : Addr) : Value := (PySem.W.typeIn K (.ref C)).getD .none
def cvalB (K : PySem.W.Frag) (C : Addr) (f : Str) (v : V) : Bool := match PySem.W.findCls K (.ref C) (clsMc K C) f with
  | some (.val u) => He.relB v u
  | _ => false
/-- the record of a classmethod or a static method that stands in the class -/
def cmAt (K : PySem.W.Frag) (C : Addr) (m : Str) : Addr := match PySem.W.findCls K (.ref C) (clsMc K C) m with
  | some (.get _ (.ref p) _ _) => p
  | _ => 0
def cmB (K : PySem.W.Frag) (C : Addr) (m : Str) : Bool := match PySem.W.findCls K (.ref C) (clsMc K C) m with
  | some (.get (.builtin b) (.ref _) .none (.ref D)) => decide (b = "classmethod.__get__") && decide (D = C)
  | _ => false

inductive Fc where
  /-- isinstance's answer for the kind t and the class c -/
  | kit (t c : Nm) (b : Bool)
  /-- an exception class over ValueError with an __init__ of its own -/
  | exo (x : Str)
  /-- the same without one of its own: what a clause, a class in isinstance asks -/
  | exb (x : Str)
  /-- a class's instances: isinstance asks them rightly; != is object's -/
  | ins (x : Str)
  | ne (x : Str)
  | op (x m : Str)
  | exm (x y : Str) (b : Bool)
  | cread (x : Str)
  | cval (x f : Str) (v : He.Dv)
  | prop (x f : Str)
  | cmet (x m : Str)
  | first (x : Str) (t : Nm)
  /-- the class is none of a built-in one; a name of the module that holds a built-in function -/
  | nomro (x : Str) (n : String)
  | bfun (x : Str) (id : String)
  /-- what a binary operator nm asks of the built-in kind n beside an instance of x; lf: does n take it as a number -/
  | bin (x : Str) (nm n : String) (lf : Bool)
  | sel (x : Str)
  /-- no method of its own for nm in place -/
  | inp (x : Str) (nm : String)
  /-- the interpreter's dict of modules is among what is known -/
  | smod
open PySem.W in
def binB (K : PySem.W.Frag) (C : Addr) (nm n : String) (lf : Bool) : Bool := (match findIn K (.type n) (PySem.dunder nm), findIn K (.type n) (dunderR nm) with
  | some fo, some ro => decide (((fo.isSome && !isSeqSlot fo) || (ro.isSome && !isSeqSlot ro)) = lf)
  | _, _ => false) && (decide (subIn K (.type n) (.ref C) = some false) && decide (mroIn K C (.type n) = some false))
open PySem.W in
def Fc.ok (K : PySem.W.Frag) : Fc → Bool
  | .kit t c b => decide (kitOne K (t.val K) (c.val K) = some b)
  | .exo x => oexB K (ga K x) && (He.eqO (findIn K (.ref (ga K x)) "__setattr__") (some (some (.builtin "object.__setattr__"))) &&
      (He.eqO (findIn K (.ref (ga K x)) "__init__") (some (some (.ref (ma K (ga K x) "__init__")))) && (decide (typeIn K (.ref (ma K (ga K x) "__init__")) = some (.type "function")) && keepIn K (.ref (ga K x)))))
  | .exb x => xfB K (ga K x) && (decide (typeIn K (.ref (ga K x)) = some (.type "type")) && (He.eqO (findIn K (.ref (ga K x)) "__class__") (some (some (.builtin "object.__class__"))) &&
      (decide (specialIn K (.builtin "object.__class__") "__get__" = some (some (.builtin "getset_descriptor.__get__"))) && (decide (takesIn K (.builtin "object.__class__") = some true) && decide (mroIn K (ga K x) (.type "object") = some true)))))
  | .ins x => He.eqO (findIn K (.ref (ga K x)) "__class__") (some (some (.builtin "object.__class__"))) &&
      (decide (specialIn K (.builtin "object.__class__") "__get__" = some (some (.builtin "getset_descriptor.__get__"))) && (decide (takesIn K (.builtin "object.__class__") = some true) && decide (mroIn K (ga K x) (.type "object") = some true)))
  | .ne x => He.eqO (findIn K (.ref (ga K x)) "__ne__") (some (some (.builtin "object.__ne__")))
  | .op x m => He.eqO (findIn K (.ref (ga K x)) m) (some (some (.ref (ma K (ga K x) m)))) && isFn K (.ref (ma K (ga K x) m))
  | .exm x y b => decide (exmOne K (.ref (ga K x)) (.ref (ga K y)) = some b)
  | .cread x => readsIn K (ga K x) (clsMc K (ga K x)) && decide (specialIn K (.ref (ga K x)) "__getattribute__" = some (some (.builtin "type.__getattribute__")))
  | .cval x f v => cvalB K (ga K x) f (v.v K)
  | .prop x f => He.eqO (findIn K (.ref (ga K x)) f) (some (some (.ref (propAt K (ga K x) f)))) && (decide (specialIn K (.ref (propAt K (ga K x) f)) "__get__" = some (some (.builtin "property.__get__"))) &&
      (decide (takesIn K (.ref (propAt K (ga K x) f)) = some true) && recB K (propAt K (ga K x) f) "property"))
  | .cmet x m => cmB K (ga K x) m && (recB K (cmAt K (ga K x) m) "classmethod" && fnIn K (recHead K (cmAt K (ga K x) m) "classmethod"))
  | .first x t => notFirst K (ga K x) (t.val K)
  | .nomro x n => decide (mroIn K (ga K x) (.type n) = some false)
  | .bfun x id => He.eqO (nsIn K mainGlobals x) (some (some (.builtin id)))
  | .bin x nm n lf => binB K (ga K x) nm n lf
  | .sel x => selfFirst K (ga K x)
  | .inp x nm => (clsIn K (ga K x)).any fun cd => cd.mro.all fun c => findIn K c (dunderI nm) == some none
  | .smod => (K.lookup sysModules).isSome
theorem ba {a b : Bool} (h : (a && b) = true) : a = true ∧ b = true := Bool.and_eq_true_iff.mp h
section
variable {K : PySem.W.Frag}
theorem kit_f {t c : Nm} {b : Bool} (h : (Fc.kit t c b).ok K = true) : PySem.W.kitOne K (t.val K) (c.val K) = some b := of_decide_eq_true h
structure BinT (K : PySem.W.Frag) (C : Addr) (nm n : String) (lf : Bool) : Prop where
  ex : ∃ fo ro, PySem.W.findIn K (.type n) (PySem.dunder nm) = some fo ∧ PySem.W.findIn K (.type n) (dunderR nm) = some ro ∧ ((fo.isSome && !isSeqSlot fo) || (ro.isSome && !isSeqSlot ro)) = lf
  sub : PySem.W.subIn K (.type n) (.ref C) = some false
  mro : PySem.W.mroIn K C (.type n) = some false
theorem bin_f {x : Str} {nm n : String} {lf : Bool} (h : (Fc.bin x nm n lf).ok K = true) : BinT K (ga K x) nm n lf := by
  obtain ⟨h1, h⟩ := ba h
  obtain ⟨h2, h3⟩ := ba h
  refine ⟨?_, of_decide_eq_true h2, of_decide_eq_true h3⟩
  split at h1
  · rename_i fo ro e1 e2
    exact ⟨fo, ro, e1, e2, of_decide_eq_true h1⟩
  · cases h1
def noInpB (K : PySem.W.Frag) (C : Addr) (nm : String) : Prop := ∃ cd, PySem.W.clsIn K C = some cd ∧ (cd.mro.all fun c => PySem.W.findIn K c (dunderI nm) == some none) = true
theorem inp_f {x : Str} {nm : String} (h : (Fc.inp x nm).ok K = true) : noInpB K (ga K x) nm := PySem.W.any_some h
theorem smod_f (h : Fc.smod.ok K = true) : (K.lookup sysModules).isSome = true := h
theorem sel_f {x : Str} (h : (Fc.sel x).ok K = true) : PySem.W.selfFirst K (ga K x) = true := h
/-- an exception class with an __init__ -/
structure ExoC (K : PySem.W.Frag) (C fI : Addr) : Prop where
  oex : OexC K C
  init : PySem.W.findIn K (.ref C) "__init__" = some (some (.ref fI))
  fn : PySem.W.typeIn K (.ref fI) = some (.type "function")
theorem exb_f {x : Str} (h : (Fc.exb x).ok K = true) : XfC K (ga K x) ∧ ExcC K (ga K x) ∧ PySem.W.typeIn K (.ref (ga K x)) = some (.type "type") := by
  obtain ⟨h1, h⟩ := ba h
  obtain ⟨h2, h⟩ := ba h
  obtain ⟨h3, h⟩ := ba h
  obtain ⟨h4, h⟩ := ba h
  obtain ⟨h5, h6⟩ := ba h
  have q := xfB_ok h1
  exact ⟨q, ⟨q.ga, q.gg, q.exC, q.hdC, He.eqO_ok h3, of_decide_eq_true h4, of_decide_eq_true h5, of_decide_eq_true h6⟩, of_decide_eq_true h2⟩
theorem exo_f {x : Str} (h : (Fc.exo x).ok K = true) (h' : (Fc.exb x).ok K = true) : ExoC K (ga K x) (ma K (ga K x) "__init__") := by
  obtain ⟨h1, h⟩ := ba h
  obtain ⟨h2, h⟩ := ba h
  obtain ⟨h3, h⟩ := ba h
  obtain ⟨h4, h5⟩ := ba h
  obtain ⟨a, b, c⟩ := exb_f h'
  exact ⟨⟨oexB_ok h1, He.eqO_ok h2, a.exC, c, h5⟩, He.eqO_ok h3, of_decide_eq_true h4⟩
theorem op_f {x m : Str} (h : (Fc.op x m).ok K = true) : PySem.W.findIn K (.ref (ga K x)) m = some (some (.ref (ma K (ga K x) m))) ∧ PySem.W.isFn K (.ref (ma K (ga K x) m)) = true := by
  obtain ⟨h1, h2⟩ := ba h
  exact ⟨He.eqO_ok h1, h2⟩
theorem ne_f {x : Str} (h : (Fc.ne x).ok K = true) : PySem.W.findIn K (.ref (ga K x)) "__ne__" = some (some (.builtin "object.__ne__")) := He.eqO_ok h
theorem exm_f {x y : Str} {b : Bool} (h : (Fc.exm x y b).ok K = true) : PySem.W.exmOne K (.ref (ga K x)) (.ref (ga K y)) = some b := of_decide_eq_true h
theorem cread_f {x : Str} (h : (Fc.cread x).ok K = true) : ClX.CRead K (ga K x) (clsMc K (ga K x)) := by
  obtain ⟨h1, h2⟩ := ba h
  exact ⟨h1, of_decide_eq_true h2⟩
theorem cval_f {x f : Str} {v : He.Dv} (h : (Fc.cval x f v).ok K = true) : ∃ u, ClX.CVal K (ga K x) (clsMc K (ga K x)) f (v.v K) u := by
  have h' : cvalB K (ga K x) f (v.v K) = true := h
  unfold cvalB at h'
  split at h'
  · rename_i u e
    exact ⟨u, e, He.relB_ok h'⟩
  · cases h'
theorem prop_f {x f : Str} (h : (Fc.prop x f).ok K = true) : PropOf K (ga K x) f (propAt K (ga K x) f) (recHead K (propAt K (ga K x) f) "property") := by
  obtain ⟨h1, h⟩ := ba h
  obtain ⟨h2, h⟩ := ba h
  obtain ⟨h3, h4⟩ := ba h
  exact ⟨He.eqO_ok h1, of_decide_eq_true h2, of_decide_eq_true h3, recB_ok h4⟩
theorem nomro_f {x : Str} {n : String} (h : (Fc.nomro x n).ok K = true) : PySem.W.mroIn K (ga K x) (.type n) = some false := of_decide_eq_true h
theorem first_f {x : Str} {t : Nm} (h : (Fc.first x t).ok K = true) : PySem.W.notFirst K (ga K x) (t.val K) = true := h
/-- what isinstance asks of an instance -/
structure InsC (K : PySem.W.Frag) (C : Addr) : Prop where
  cl : Cls K C
  ha : PySem.W.findIn K (.ref C) "__class__" = some (some (.builtin "object.__class__"))
  hn : PySem.W.specialIn K (.builtin "object.__class__") "__get__" = some (some (.builtin "getset_descriptor.__get__"))
  ht : PySem.W.takesIn K (.builtin "object.__class__") = some true
  hm : PySem.W.mroIn K C (.type "object") = some true
theorem ins_f {x : Str} (h : (Fc.ins x).ok K = true) (c : Cls K (ga K x)) : InsC K (ga K x) := by
  obtain ⟨h1, h⟩ := ba h
  obtain ⟨h2, h⟩ := ba h
  obtain ⟨h3, h4⟩ := ba h
  exact ⟨c, He.eqO_ok h1, of_decide_eq_true h2, of_decide_eq_true h3, of_decide_eq_true h4⟩
end

/-! ### defs by their places -/
inductive Pl where
  | fn (x : Str)
  | me (x m : Str)
  | pr (x m : Str)
  | cm (x m : Str)
def Pl.adr (K : PySem.W.Frag) : Pl → Addr
  | .fn x => ga K x
  | .me x m => ma K (ga K x) m
  | .pr x m => recHead K (propAt K (ga K x) m) "property"
  | .cm x m => recHead K (cmAt K (ga K x) m) "classmethod"
structure Df where
  at_ : Pl
  name : Str
  qual : Str
  st : Stmt
  dfl : List He.Dv := []
/-- the function that stands at a -/
def funAt? (K : PySem.W.Frag) (a : Addr) : Option FuncData := match K.lookup a with
  | some o => (match o.data with
    | .func fd => some fd
    | _ => none)
  | none => none
def wordsOf (fd : FuncData) : Str × Str × Arguments × FuncBody × Scope × Addr × List (Str × Addr) × Addr :=
  (fd.name, fd.qualname, fd.params, fd.body, fd.scope, fd.globals, fd.closure, fd.builtins)
def fnWa (K : PySem.W.Frag) (a : Addr) : He.FnW := (funAt? K a).map wordsOf
def Df.val (d : Df) : He.FnW := some (d.name, d.qual, defArgs d.st, .stmts (defBody d.st), defScope d.st, mainGlobals, [], builtinsNs)
def Df.dvs (K : PySem.W.Frag) (d : Df) : List V := d.dfl.map (He.Dv.v K)
def Df.ok (K : PySem.W.Frag) (d : Df) : Bool := PySem.W.keepIn K (.ref (d.at_.adr K)) && ((funAt? K (d.at_.adr K)).any fun fd =>
  PySem.W.codeIn K fd.code d.qual && (He.dflB K fd.defaults (d.dvs K) && He.kwdB K fd.kwdefaults []))
/-- a def's function data -/
def fdAt (K : PySem.W.Frag) (f : Addr) : FuncData := (funAt? K f).getD default
theorem funAt_some {K : PySem.W.Frag} {a : Addr} {fd : FuncData} (e : funAt? K a = some fd) : ∃ c dd sl, K.lookup a = some ⟨c, dd, .func fd, sl⟩ := by
  revert e
  unfold funAt?
  match K.lookup a with
  | none => exact nofun
  | some ⟨c, dd, da, sl⟩ =>
    cases da with
    | func fd' =>
      intro e
      obtain rfl : fd' = fd := Option.some.inj e
      exact ⟨c, dd, sl, rfl⟩
    | _ => exact nofun
theorem Df.funD {K : PySem.W.Frag} {d : Df} (words : fnWa K (d.at_.adr K) = d.val) (c : d.ok K = true) :
    FunD K d.name d.qual (defArgs d.st) (defBody d.st) (defScope d.st) (d.dvs K) [] (d.at_.adr K) (fdAt K (d.at_.adr K)) := by
  rcases Option.map_eq_some_iff.mp words with ⟨fd, here, words⟩
  have rest := (ba c).2
  unfold fdAt
  rw [here] at rest ⊢
  rcases ba rest with ⟨code, rest⟩
  rcases funAt_some here with ⟨oc, od, sl, look⟩
  refine ⟨⟨oc, od, fd.defaults, fd.kwdefaults, fd.doc, fd.pyModule, fd.annotations, fd.code, fd.closureTuple, sl, ?_, look, code, He.dflB_ok (ba rest).1, He.kwdB_ok (ba rest).2⟩, (ba c).1⟩
  cases fd
  cases words
  rfl
/-- a def's code object and its table -/
def codeAt (K : PySem.W.Frag) (f : Addr) : Addr := match (fdAt K f).code with
  | .ref c => c
  | _ => 0
def tabAt (K : PySem.W.Frag) (f : Addr) : Addr × Addr := (codeAt K f, He.tabOf K (codeAt K f))

/-! ### the Hook: facts, defs, tables of code objects that are empty and not in K -/
structure Sys where
  fa : List He.Fa
  fc : List Fc
  fn : List Df
  tf : List Pl
def asC (g : Addr → Option Obj) (n : Nat) : List Addr := He.asD g n ++ [cStatics, sysModules]
def tabsC (g : Addr → Option Obj) (tf : List Pl) (K : PySem.W.Frag) : Bool := tf.all fun p => PySem.W.codeHdIn K (tabAt K (p.adr K)).1 (tabAt K (p.adr K)).2 && (match g (tabAt K (p.adr K)).2 with
  | some o => He.emptyTab o
  | none => false)
/-- no table twice -/
def apartB : List Addr → Bool
  | [] => true
  | a :: l => (l.all fun b => decide (a ≠ b)) && apartB l
theorem apart_inj {l : List (Addr × Str)} (h : apartB (l.map (·.1)) = true) : ∀ p ∈ l, ∀ q ∈ l, p.1 = q.1 → p.2 = q.2 := by
  induction l with
  | nil => intro p hp; cases hp
  | cons x l ih =>
    have h' : ((l.map (·.1)).all (fun b => decide (x.1 ≠ b)) && apartB (l.map (·.1))) = true := h
    obtain ⟨h1, h2⟩ := Bool.and_eq_true_iff.mp h'
    have far : ∀ q ∈ l, x.1 ≠ q.1 := fun q hq => of_decide_eq_true (List.all_eq_true.mp h1 q.1 (List.mem_map.mpr ⟨q, hq, rfl⟩))
    intro p hp q hq e
    rcases List.mem_cons.mp hp with z1 | z1
    · rcases List.mem_cons.mp hq with z2 | z2
      · rw [z1, z2]
      · rw [z1] at e
        exact absurd e (far q z2)
    · rcases List.mem_cons.mp hq with z2 | z2
      · rw [z2] at e
        exact absurd e.symm (far p z1)
      · exact ih h2 p z1 q z2 e
def obsK (y : Sys) (K : PySem.W.Frag) : Bool := (y.fa.all fun f => f.ok K) && ((y.fc.all fun f => f.ok K) && ((y.fn.all fun d => d.ok K) && apartB (y.tf.map fun p => (tabAt K (p.adr K)).2)))
abbrev AlC : Type := Bool × List He.FnW
def obsC (n : Nat) (y : Sys) (g : Addr → Option Obj) : AlC :=
  (obsK y (He.frT g (asC g n)) && tabsC g y.tf (He.frT g (asC g n)), y.fn.map fun d => fnWa (He.frT g (asC g n)) (d.at_.adr (He.frT g (asC g n))))
def valC (y : Sys) : AlC := (true, y.fn.map Df.val)
structure SaysC (y : Sys) (h : Heap) (K : PySem.W.Frag) : Prop where
  k : obsK y K = true
  d : (y.fn.map fun d => fnWa K (d.at_.adr K)) = y.fn.map Df.val
  hd : ∀ p ∈ y.tf, PySem.W.codeHdIn K (tabAt K (p.adr K)).1 (tabAt K (p.adr K)).2 = true
  out : ∀ p ∈ y.tf, K.lookup (tabAt K (p.adr K)).2 = none
  empty : ∀ p ∈ y.tf, h.get? (tabAt K (p.adr K)).2 = some { cls := .none, data := .fields #[] }
theorem saysC_of {n : Nat} {y : Sys} {h : Heap} (e : obsC n y h.get? = valC y) : SaysC y h (He.frT h.get? (asC h.get? n)) := by
  have e1 : (obsK y (He.frT h.get? (asC h.get? n)) && tabsC h.get? y.tf (He.frT h.get? (asC h.get? n))) = true := congrArg (fun z : AlC => z.1) e
  have e2 : (y.fn.map fun d => fnWa (He.frT h.get? (asC h.get? n)) (d.at_.adr (He.frT h.get? (asC h.get? n)))) = y.fn.map Df.val := congrArg (fun z : AlC => z.2) e
  obtain ⟨h1, h2⟩ := ba e1
  have key : ∀ p ∈ y.tf, PySem.W.codeHdIn (He.frT h.get? (asC h.get? n)) (tabAt (He.frT h.get? (asC h.get? n)) (p.adr (He.frT h.get? (asC h.get? n)))).1
      (tabAt (He.frT h.get? (asC h.get? n)) (p.adr (He.frT h.get? (asC h.get? n)))).2 = true ∧
      ∃ o, h.get? (tabAt (He.frT h.get? (asC h.get? n)) (p.adr (He.frT h.get? (asC h.get? n)))).2 = some o ∧ He.emptyTab o = true := fun p hp => by
    obtain ⟨h3, h4⟩ := ba (List.all_eq_true.mp h2 p hp)
    refine ⟨h3, ?_⟩
    split at h4
    · rename_i o q
      exact ⟨o, q, h4⟩
    · cases h4
  refine ⟨h1, e2, fun p hp => (key p hp).1, fun p hp => ?_, fun p hp => ?_⟩
  · obtain ⟨_, o, q, z⟩ := key p hp
    exact He.frT_none q z
  · obtain ⟨_, o, q, z⟩ := key p hp
    rw [q, He.emptyTab_eq z]
def hookC (n : Nat) (y : Sys) : PySem.W.Hook where
  α := AlC
  obs := fun s => obsC n y s.heap.get?
  val := fun _ => valC y
  says := fun _ h => ∃ K : PySem.W.Frag, K.In h ∧ SaysC y h K
  of := fun _ _ e => ⟨_, He.frT_in, saysC_of e⟩
  keeps := fun _ _ _ ⟨K, hK, c⟩ k => ⟨K, PySem.W.Frag.In.keeps hK k, ⟨c.k, c.d, c.hd, c.out, fun p hp => k _ _ (c.empty p hp)⟩⟩
theorem obsC_eq {n : Nat} {y : Sys} {g : Addr → Option Obj} {s : Shared} (h : ∀ a, g a = s.heap.get? a) : obsC n y g = (hookC n y).obs s := by
  have e : g = s.heap.get? := funext h
  rw [e] <;> rfl
/-- what a proof of a def leans on -/
structure HD (y : Sys) (K : PySem.W.Frag) (mg : Str → Option Value) : Prop where
  gl : ∀ (x : Str) (v : Option Value), PySem.W.nsIn K mainGlobals x = some v → mg x = v
  k : obsK y K = true
  d : (y.fn.map fun d => fnWa K (d.at_.adr K)) = y.fn.map Df.val
section
variable {y : Sys} {K : PySem.W.Frag} {mg : Str → Option Value}
theorem HD.of {h : Heap} (X : K.In h) (G : h.Ns mainGlobals mg) (c : SaysC y h K) : HD y K mg := ⟨fun x v e => by
  cases v with
  | none => exact PySem.W.mg_none_of X G e
  | some u => exact PySem.W.mg_of X G e, c.k, c.d⟩
theorem HD.fact (S : HD y K mg) (i : Nat) {f : He.Fa} (h : y.fa[i]? = some f := by rfl) : f.ok K = true := List.all_eq_true.mp (ba S.k).1 f (List.mem_of_getElem? h)
theorem HD.fcc (S : HD y K mg) (i : Nat) {f : Fc} (h : y.fc[i]? = some f := by rfl) : f.ok K = true := List.all_eq_true.mp (ba (ba S.k).2).1 f (List.mem_of_getElem? h)
theorem HD.glo (S : HD y K mg) {x : Str} (h : (He.Fa.glo x).ok K = true) : mg x = some (.ref (ga K x)) := S.gl _ _ (He.eqO_ok h)
theorem HD.bfun (S : HD y K mg) {x : Str} {id : String} (h : (Fc.bfun x id).ok K = true) : mg x = some (.builtin id) := S.gl _ _ (He.eqO_ok h)
theorem HD.free (S : HD y K mg) {x : Str} (h : (He.Fa.free x).ok K = true) : mg x = none := S.gl _ _ (He.eqO_ok h)
theorem HD.def_ (S : HD y K mg) (i : Nat) {d : Df} (h : y.fn[i]? = some d := by rfl) :
    FunD K d.name d.qual (defArgs d.st) (defBody d.st) (defScope d.st) (d.dvs K) [] (d.at_.adr K) (fdAt K (d.at_.adr K)) := by
  have e2 : (y.fn.map fun d => fnWa K (d.at_.adr K))[i]? = (y.fn.map Df.val)[i]? := by rw [S.d]
  rw [List.getElem?_map, List.getElem?_map, h] at e2
  exact Df.funD (Option.some.inj e2) (List.all_eq_true.mp (ba (ba (ba S.k).2).2).1 d (List.mem_of_getElem? h))
theorem HD.apart (S : HD y K mg) : apartB (y.tf.map fun p => (tabAt K (p.adr K)).2) = true := (ba (ba (ba S.k).2).2).2
end

/-! ### callees in short: what a call of the name x, of a method, of a class asks -/
/-- f(..) by the module's name x -/
def Cl (P : Program) (w : World) (K : PySem.W.Frag) (mg : Str → Option Value) (base : Heap) (CX : CXT) (k : Nat) (x : Str) (sp : Sp) : Prop :=
  ∃ f fd ps, FnOk P w K mg base CX k f fd ps sp ∧ mg x = some (.ref f) ∧ PySem.W.keepIn K (.ref f) = true ∧ Binds K fd ps []
def ClG (P : Program) (w : World) (K : PySem.W.Frag) (mg : Str → Option Value) (base : Heap) (CX : CXT) (k : Nat) (x : Str) (sp : Sp) : Prop :=
  ∃ f fd ps, FnOkG P w K mg base CX k f fd ps sp ∧ mg x = some (.ref f) ∧ PySem.W.keepIn K (.ref f) = true ∧ Binds K fd ps []
/-- o.m(..), o an instance of C -/
def Me (P : Program) (w : World) (K : PySem.W.Frag) (mg : Str → Option Value) (base : Heap) (CX : CXT) (k : Nat) (C : Addr) (m : Str) (sp : Sp) : Prop :=
  ∃ f fd ps, FnOk P w K mg base CX k f fd ps sp ∧ Cls K C ∧ Meth K C m f ∧ Binds K fd ps []
/-- C(..) -/
def Mke (P : Program) (w : World) (K : PySem.W.Frag) (mg : Str → Option Value) (base : Heap) (CX : CXT) (k : Nat) (x : Str) (sp : Sp) : Prop :=
  ∃ f fd ps, FnOk P w K mg base CX k f fd ps sp ∧ Mk K (ga K x) f ∧ mg x = some (.ref (ga K x)) ∧ Binds K fd ps []
section
variable {X : Cx} {CX : CXT} {j k : Nat} {x m : Str} {C : Addr} {sp : Sp} {E : XK} {p pos apos : Pos} {e o : Expr} {es : List Expr} {t : TA} {ta : TE}
theorem pe_f (c : Cl X.prog X.w X.K X.mg X.base CX k x sp) (hr : Room j X.A) (hk : k ≤ j) (hx : Passes CX X E) (ha : PA X (e :: es) t) (hg : Gl X x := by rfl)
    (hdb : (x == ("__debug__" : Str)) = false := by decide) (he : starEach (e :: es) X.env = (false, eval e X.env) :: starEach es X.env := by rfl)
    (hpl : (backTo pos (starEach es X.env)).any (·.1) = false := by rfl) : PE X (.Call (.Name x p) (e :: es) [] pos) (tCall sp [] E t) := by
  obtain ⟨f, fd, ps, F, hm, kp, b⟩ := c
  exact pe_call F (hr.mono hk) hg hm kp b .nil hx ha hdb he hpl
theorem pe_fG (c : ClG X.prog X.w X.K X.mg X.base CX k x sp) (hr : Room j X.A) (hk : k ≤ j) (hgd : X.A.guards = some []) (hx : Passes CX X E) (ha : PA X (e :: es) t) (hg : Gl X x := by rfl)
    (hdb : (x == ("__debug__" : Str)) = false := by decide) (he : starEach (e :: es) X.env = (false, eval e X.env) :: starEach es X.env := by rfl)
    (hpl : (backTo pos (starEach es X.env)).any (·.1) = false := by rfl) : PE X (.Call (.Name x p) (e :: es) [] pos) (tCall sp [] E t) := by
  obtain ⟨f, fd, ps, F, hm, kp, b⟩ := c
  exact pe_callG F (hr.mono hk) hgd hg hm kp b .nil hx ha hdb he hpl
theorem pe_me {pl : Sem Bool} (c : Me X.prog X.w X.K X.mg X.base CX k C m sp) (hr : Room j X.A) (hk : k ≤ j) (hx : Passes CX X E) (ho : PE X o ta) (ha : PA X (e :: es) t)
    (hst : starEach (e :: es) X.env = (false, eval e X.env) :: starEach es X.env := by rfl) (hpl : (backTo pos (starEach es X.env)).any (·.1) = false := by rfl)
    (ht : eval (.Call (.Attribute o m apos) (e :: es) [] pos) X.env = (do
      let ov ← eval o X.env
      standAt apos.atName
      let (f, first) ← holding [ov] (getMethod ov m pl)
      callWith pos f first (backTo pos (starEach (e :: es) X.env)) (backToKw pos (keywordEach [] X.env))) := by rfl) :
    PE X (.Call (.Attribute o m apos) (e :: es) [] pos) (tMeth C m sp [] E ta t) := by
  obtain ⟨f, fd, ps, F, cl, hm, b⟩ := c
  exact pe_meth ho cl hm F (hr.mono hk) b .nil hx ha hst hpl ht
theorem pe_me0 {pl : Sem Bool} (c : Me X.prog X.w X.K X.mg X.base CX k C m sp) (hr : Room j X.A) (hk : k ≤ j) (hx : Passes CX X E) (ho : PE X o ta)
    (ht : eval (.Call (.Attribute o m apos) [] [] pos) X.env = (do
      let ov ← eval o X.env
      standAt apos.atName
      let (f, first) ← holding [ov] (getMethod ov m pl)
      callWith pos f first (backTo pos (starEach [] X.env)) (backToKw pos (keywordEach [] X.env))) := by rfl) :
    PE X (.Call (.Attribute o m apos) [] [] pos) (tMeth C m sp [] E ta tNil) := by
  obtain ⟨f, fd, ps, F, cl, hm, b⟩ := c
  exact pe_meth0 ho cl hm F (hr.mono hk) b .nil hx ht
theorem pe_mke (c : Mke X.prog X.w X.K X.mg X.base CX k x sp) (hr : Room j X.A) (hk : k + 1 ≤ j) (hx : Passes CX X E) (ha : PA X (e :: es) t) (hg : Gl X x := by rfl)
    (hdb : (x == ("__debug__" : Str)) = false := by decide) (he : starEach (e :: es) X.env = (false, eval e X.env) :: starEach es X.env := by rfl)
    (hpl : (backTo pos (starEach es X.env)).any (·.1) = false := by rfl) : PE X (.Call (.Name x p) (e :: es) [] pos) (tMake (ga X.K x) sp [] E t) := by
  obtain ⟨f, fd, ps, F, M, hm, b⟩ := c
  exact pe_make M F (hr.mono hk) hg hm b .nil hx ha hdb he hpl
end
end CT
namespace CT
open PySem PySem.Spec PyProof.Rows L2
open He (ga ma fAd)

/-! ### readings, step by step -/
section
variable {σ : St} {H : Hp} {Q : VK} {v : V} {D : Ends} {K : PySem.W.Frag}
theorem go_var {i : Nat} (h : σ[i]? = some (some v)) (k : Q v H) : tVar i σ H Q := ⟨v, h, k⟩
theorem go_c (k : Q v H) : tC v σ H Q := k
theorem go_op {r : R2} {ta tb : TE} (k : ta σ H fun x H1 => tb σ H1 fun y H2 => r x y H2 Q) : tOp r ta tb σ H Q := k
theorem go_un {r : V → Hp → VK → Prop} {ta : TE} (k : ta σ H fun x H1 => r x H1 Q) : tUn r ta σ H Q := k
theorem go_u {g : Int → V} {i : Int} (k : Q (g i) H) : rU g (.int i) H Q := ⟨i, rfl, k⟩
theorem go_i0 {g : Int → Int → V} {i j : Int} (k : Q (g i j) H) : rI0 g (.int i) (.int j) H Q := ⟨i, j, rfl, rfl, k⟩
theorem go_i {C : Int → Int → Prop} {g : Int → Int → V} {i j : Int} (c : C i j) (k : Q (g i j) H) : rI C g (.int i) (.int j) H Q := ⟨i, j, rfl, rfl, c, k⟩
theorem go_pow {i j r : Int} (c : CPow i j) (e : i ^ j.toNat = r) (k : Q (.int r) H) : rI CPow (fun i j => .int (i ^ j.toNat)) (.int i) (.int j) H Q := by
  subst e
  exact ⟨i, j, rfl, rfl, c, k⟩
theorem go_test {t : TE} {R : Bool → Hp → Prop} (k : t σ H fun x H' => ∃ k, x = .bl k ∧ R k H') : tTest t σ H R := k
theorem go_B {t : TE} {R : Bool → Hp → Prop} (k : t σ H fun x H' => ∃ k, x = .bl k ∧ R k H') : tB t σ H R := k
theorem go_k {b : Bool} {R : Bool → Prop} (k : R b) : ∃ k, V.bl b = .bl k ∧ R k := ⟨b, rfl, k⟩
theorem go_and {t u : TT} {R : Bool → Hp → Prop} (k : t σ H fun c H1 => if c = true then u σ H1 R else R false H1) : tAnd t u σ H R := k
theorem go_or {t u : TT} {R : Bool → Hp → Prop} (k : t σ H fun c H1 => if c = true then R true H1 else u σ H1 R) : tOr t u σ H R := k
theorem go_not {t : TT} {R : Bool → Hp → Prop} (k : t σ H fun c H1 => R (!c) H1) : tNot t σ H R := k
theorem go_andV {ta tb : TE} (k : ta σ H fun x H1 => ∃ c, x = .bl c ∧ if c = true then tb σ H1 Q else Q (.bl false) H1) : tAndV ta tb σ H Q := k
theorem go_orV {ta tb : TE} (k : ta σ H fun x H1 => ∃ c, x = .bl c ∧ if c = true then Q (.bl true) H1 else tb σ H1 Q) : tOrV ta tb σ H Q := k
theorem go_notV {ta : TE} (k : ta σ H fun x H1 => ∃ c, x = .bl c ∧ Q (.bl (!c)) H1) : tNotV ta σ H Q := k
theorem go_if {t : TT} {ta tb : TE} (k : t σ H fun c H1 => if c = true then ta σ H1 Q else tb σ H1 Q) : L2.tIf t ta tb σ H Q := k
theorem go_ifS {c : TT} {t u : TS} (k : c σ H fun b H1 => if b = true then t D σ H1 else u D σ H1) : tIfS c t u D σ H := k
theorem go_seq {t u : TS} (k : t { D with nx := u D } σ H) : tSeq t u D σ H := k
theorem go_next (k : D.nx σ H) : tNext D σ H := k
theorem go_asg {te : TE} {g : TG} (k : te σ H fun x H1 => g x σ H1 D.nx) : tAsg te g D σ H := k
theorem go_name {i : Nat} {σ' : St} {R : St → Hp → Prop} (h : σ.set i (some v) = σ') (k : R σ' H) : gName i v σ H R := by
  subst h
  exact k
theorem go_ret {te : TE} (k : te σ H D.rt) : tRet te D σ H := k
theorem go_retN (k : D.rt .non H) : tRetN D σ H := k
theorem go_drop {te : TE} (k : te σ H fun _ H1 => D.nx σ H1) : tDrop te D σ H := k
theorem go_call {sp : Sp} {E : XK} {t : TA} (k : t σ H fun vs H1 => sp (vs ++ []) H1 Q E) : tCall sp [] E t σ H Q := k
theorem go_cb {r : List V → Hp → VK → Prop} {t : TA} (k : t σ H fun vs H1 => r vs H1 Q) : tCB r t σ H Q := k
theorem go_nil {R : List V → Hp → Prop} (k : R [] H) : tNil σ H R := k
theorem go_cons {ta : TE} {tr : TA} {R : List V → Hp → Prop} (k : ta σ H fun x H1 => tr σ H1 fun xs H2 => R (x :: xs) H2) : tCons ta tr σ H R := k
def rNewL (xs : List V) (H : Hp) (Q : VK) : Prop := xs.length ≤ sizeLine ∧ ∀ p, H p = none → Q (.ref p) (upd H p (.lst xs))
def rNewT (xs : List V) (H : Hp) (Q : VK) : Prop := xs.length ≤ sizeLine ∧ ∀ p, H p = none → Q (.ref p) (upd H p (.tup xs))
theorem go_lst {t : TA} (k : t σ H fun xs H1 => rNewL xs H1 Q) : tLst t σ H Q := k
theorem go_tup {t : TA} (k : t σ H fun xs H1 => rNewT xs H1 Q) : tTup t σ H Q := k
theorem newL_raw {xs : List V} (h : xs.length ≤ 1000) (k : ∀ p, H p = none → Q (.ref p) (upd H p (.lst xs))) : rNewL xs H Q := ⟨Nat.le_of_lt (small1000 h), k⟩
theorem newT_raw {xs : List V} (h : xs.length ≤ 1000) (k : ∀ p, H p = none → Q (.ref p) (upd H p (.tup xs))) : rNewT xs H Q := ⟨Nat.le_of_lt (small1000 h), k⟩
theorem go_sz {n : Nat} {R : Addr → Prop} (h : n ≤ 1000) (k : ∀ p, H p = none → R p) : n ≤ sizeLine ∧ ∀ p, H p = none → R p := ⟨Nat.le_of_lt (small1000 h), k⟩
def rFld (K : PySem.W.Frag) (f : Str) (x : V) (H : Hp) (Q : VK) : Prop := ∃ a C dx fs v, x = .ref a ∧ H a = some (.ins C dx fs) ∧ Cls K C ∧ NoAttr K C f ∧ fs.lookup f = some v ∧ Q v H
theorem go_fld {ta : TE} {f : Str} (k : ta σ H fun x H1 => rFld K f x H1 Q) : tFld K ta f σ H Q := k
def par2 (i j : Nat) (σ : St) (vs : List V) (R : St → Prop) : Prop := ∃ v w, vs = [v, w] ∧ R ((σ.set i (some v)).set j (some w))
theorem go_par {i j : Nat} {ta : TA} (k : ta σ H fun vs H1 => par2 i j σ vs fun σ' => D.nx σ' H1) : tPar i j ta D σ H := k
theorem go_par2 {i j : Nat} {u w : V} {σ' : St} {R : St → Prop} (h : (σ.set i (some u)).set j (some w) = σ') (k : R σ') : par2 i j σ [u, w] R := by
  subst h
  exact ⟨u, w, rfl, k⟩
theorem go_start {σ' : St} {t : TS} (e : σ = σ') (h : t D σ' H) : t D σ H := by
  subst e
  exact h
theorem cxOf_K {CX : CXT} {P : Program} {w : World} {mg : Str → Option Value} {base : Heap} {N : List Str} {qual : Str} {scope : Scope} {f : Addr} {cd : Value} {A : Around} {outer : List Env} {s : Shared} {E : XK} :
    (cxOf CX P w K mg base N qual scope f cd A outer s H E).K = K := rfl
theorem go_slL {te : TE} {tl th : TO} {p : Addr} {xs : List V} (k : te σ H fun x H1 => tl σ H1 fun l H2 => th σ H2 fun u H3 => rSlL K x l u H3 Q) : tSl (rSlL K) te tl th σ H Q := k
theorem go_part {t : TE} {R : Option Int → Hp → Prop} (k : t σ H fun x H1 => ∃ i, x = .int i ∧ R (some i) H1) : tPart t σ H R := k
theorem go_i1 {i : Int} {R : Int → Prop} (k : R i) : ∃ j, V.int i = .int j ∧ R j := ⟨i, rfl, k⟩
theorem go_nopart {R : Option Int → Hp → Prop} (k : R none H) : tNoPart σ H R := k
theorem go_sl {r : V → Option Int → Option Int → Hp → VK → Prop} {te : TE} {tl th : TO} (k : te σ H fun x H1 => tl σ H1 fun l H2 => th σ H2 fun u H3 => r x l u H3 Q) : tSl r te tl th σ H Q := k
theorem go_rsl {a : Addr} {lo hi : Option Int} {xs : List V} (h : SqL K H a xs) (k : ∀ p, H p = none → Q (.ref p) (upd H p (.lst (cutV xs lo hi)))) : rSlL K (.ref a) lo hi H Q := ⟨a, xs, rfl, h, k⟩
theorem go_isi {x c : V} {u t : Value} {b : Bool} (h : ClsV c u) (ty : TyX K H x t) (e : PySem.W.kitOne K t u = some b) (k : Q (.bl b) H) : rIsi K [x, c] H Q := ⟨x, c, t, u, b, rfl, h, ty, e, k⟩
theorem bl_of {R : V → Prop} {x y : Bool} (e : x = y) (k : R (.bl y)) : R (.bl x) := e ▸ k
theorem int_of {R : V → Prop} {x y : Int} (e : x = y) (k : R (.int y)) : R (.int x) := e ▸ k
theorem go_fldx {a C dx : Addr} {fs : List (Str × V)} {f : Str} (h : H a = some (.ins C dx fs)) (c : Cls K C) (n : NoAttr K C f) (l : fs.lookup f = some v) (k : Q v H) : rFld K f (.ref a) H Q := ⟨a, C, dx, fs, v, rfl, h, c, n, l, k⟩
def rLstOf (K : PySem.W.Frag) : List V → Hp → VK → Prop := fun xs H Q => ∃ p ys, xs = [.ref p] ∧ (SqL K H p ys ∨ SqT K H p ys) ∧ ∀ l, H l = none → Q (.ref l) (upd H l (.lst ys))
theorem go_cbLst {t : TA} (k : t σ H fun vs H1 => rLstOf K vs H1 Q) : tCB (fun xs H Q => ∃ p ys, xs = [.ref p] ∧ (SqL K H p ys ∨ SqT K H p ys) ∧ ∀ l, H l = none → Q (.ref l) (upd H l (.lst ys))) t σ H Q := k
theorem go_lstof {a : Addr} {ys : List V} (h : SqL K H a ys ∨ SqT K H a ys) (k : ∀ l, H l = none → Q (.ref l) (upd H l (.lst ys))) : rLstOf K [.ref a] H Q := ⟨a, ys, rfl, h, k⟩
def rLen (K : PySem.W.Frag) : List V → Hp → VK → Prop := fun xs H Q => ∃ p ys, xs = [.ref p] ∧ (SqL K H p ys ∨ SqT K H p ys) ∧ Q (.int ys.length) H
theorem go_cbLen {t : TA} (k : t σ H fun vs H1 => rLen K vs H1 Q) : tCB (fun xs H Q => ∃ p ys, xs = [.ref p] ∧ (SqL K H p ys ∨ SqT K H p ys) ∧ Q (.int ys.length) H) t σ H Q := k
theorem go_len {a : Addr} {ys : List V} (h : SqL K H a ys ∨ SqT K H a ys) (k : Q (.int ys.length) H) : rLen K [.ref a] H Q := ⟨a, ys, rfl, h, k⟩
def rIntOf : List V → Hp → VK → Prop := fun xs H Q => (∃ i, xs = [.int i] ∧ Q (.int i) H) ∨ ∃ k, xs = [.bl k] ∧ Q (.int (if k = true then 1 else 0)) H
theorem go_cbInt {t : TA} (k : t σ H fun vs H1 => rIntOf vs H1 Q) : tCB (fun xs H Q => (∃ i, xs = [.int i] ∧ Q (.int i) H) ∨ ∃ k, xs = [.bl k] ∧ Q (.int (if k = true then 1 else 0)) H) t σ H Q := k
theorem go_int {i : Int} (k : Q (.int i) H) : rIntOf [.int i] H Q := .inl ⟨i, rfl, k⟩
theorem go_intb {b : Bool} (k : Q (.int (if b = true then 1 else 0)) H) : rIntOf [.bl b] H Q := .inr ⟨b, rfl, k⟩
def rBoolOf : List V → Hp → VK → Prop := fun xs H Q => (∃ i, xs = [.int i] ∧ Q (.bl (i != 0)) H) ∨ ∃ k, xs = [.bl k] ∧ Q (.bl k) H
theorem go_cbBool {t : TA} (k : t σ H fun vs H1 => rBoolOf vs H1 Q) : tCB (fun xs H Q => (∃ i, xs = [.int i] ∧ Q (.bl (i != 0)) H) ∨ ∃ k, xs = [.bl k] ∧ Q (.bl k) H) t σ H Q := k
theorem go_booli {i : Int} (k : Q (.bl (i != 0)) H) : rBoolOf [.int i] H Q := .inl ⟨i, rfl, k⟩
theorem go_boolb {b : Bool} (k : Q (.bl b) H) : rBoolOf [.bl b] H Q := .inr ⟨b, rfl, k⟩
def rAbs : List V → Hp → VK → Prop := fun xs H Q => ∃ i, xs = [.int i] ∧ Q (.int (if i < 0 then -i else i)) H
theorem go_cbAbs {t : TA} (k : t σ H fun vs H1 => rAbs vs H1 Q) : tCB (fun xs H Q => ∃ i, xs = [.int i] ∧ Q (.int (if i < 0 then -i else i)) H) t σ H Q := k
theorem go_abs {i : Int} (k : Q (.int (if i < 0 then -i else i)) H) : rAbs [.int i] H Q := ⟨i, rfl, k⟩
def rMax2 : List V → Hp → VK → Prop := fun xs H Q => ∃ i j, xs = [.int i, .int j] ∧ Q (.int (if i < j then j else i)) H
theorem go_cbMax {t : TA} (k : t σ H fun vs H1 => rMax2 vs H1 Q) : tCB (fun xs H Q => ∃ i j, xs = [.int i, .int j] ∧ Q (.int (if j > i then j else i)) H) t σ H Q := k
theorem go_max {i j : Int} (k : Q (.int (if i < j then j else i)) H) : rMax2 [.int i, .int j] H Q := ⟨i, j, rfl, k⟩
def rMin2 : List V → Hp → VK → Prop := fun xs H Q => ∃ i j, xs = [.int i, .int j] ∧ Q (.int (if j < i then j else i)) H
theorem go_cbMin {t : TA} (k : t σ H fun vs H1 => rMin2 vs H1 Q) : tCB (fun xs H Q => ∃ i j, xs = [.int i, .int j] ∧ Q (.int (if j < i then j else i)) H) t σ H Q := k
theorem go_min {i j : Int} (k : Q (.int (if j < i then j else i)) H) : rMin2 [.int i, .int j] H Q := ⟨i, j, rfl, k⟩
theorem go_dec {c A B : Prop} [Decidable c] (h1 : c → A) (h2 : ¬ c → B) : if decide c = true then A else B := by
  by_cases h : c
  · rw [decide_eq_true h]
    exact iteT (h1 h)
  · rw [decide_eq_false h]
    exact iteF (h2 h)
theorem go_ndec {c A B : Prop} [Decidable c] (h1 : ¬ c → A) (h2 : c → B) : if (!decide c) = true then A else B := by
  by_cases h : c
  · rw [decide_eq_true h]
    exact iteF (h2 h)
  · rw [decide_eq_false h]
    exact iteT (h1 h)
theorem go_b {b : Bool} {A B : Prop} (h1 : b = true → A) (h2 : b = false → B) : if b = true then A else B := by
  cases b
  · exact iteF (h2 rfl)
  · exact iteT (h1 rfl)
theorem go_nb {b : Bool} {A B : Prop} (h1 : b = false → A) (h2 : b = true → B) : if (!b) = true then A else B := by
  cases b
  · exact iteT (h1 rfl)
  · exact iteF (h2 rfl)
theorem go_nT {A B : Prop} (k : B) : if (!true) = true then A else B := iteF k
theorem go_nF {A B : Prop} (k : A) : if (!false) = true then A else B := iteT k
theorem go_seqR {t u : TS} (R : St → Hp → Prop) (h : ∀ σ' H', R σ' H' → u D σ' H') (k : (∀ σ' H', R σ' H' → u D σ' H') → t { D with nx := u D } σ H) : tSeq t u D σ H := k h
theorem go_setL {p : Addr} {xs xs' : List V} {i : Int} {j : Nat} {R : Hp → Prop} (h : H p = some (.lst xs)) (ij : ixN xs.length i = some j) (e : xs.set j v = xs') (k : R (upd H p (.lst xs'))) :
    rSetL (.ref p) (.int i) v H R := by
  subst e
  exact ⟨p, xs, i, j, rfl, rfl, h, ij, k⟩
theorem go_sub {to ti : TE} {t : TSet} {R : St → Hp → Prop} (k : to σ H fun o H1 => ti σ H1 fun i H2 => t o i v H2 fun H3 => R σ H3) : gSub to ti t v σ H R := k
theorem go_ixl {p : Addr} {xs : List V} {i : Int} (h : SqL K H p xs) (a : atI xs i = some v) (k : Q v H) : rIxL K (.ref p) (.int i) H Q := ⟨p, xs, i, v, rfl, rfl, h, a, k⟩
theorem go_ixt {p : Addr} {xs : List V} {i : Int} (h : SqT K H p xs) (a : atI xs i = some v) (k : Q v H) : rIxT K (.ref p) (.int i) H Q := ⟨p, xs, i, v, rfl, rfl, h, a, k⟩
theorem go_eq {x y : V} (s : scal x y = true) (k : Q (.bl (decide (x = y))) H) : rEq x y H Q := ⟨s, k⟩
theorem go_ne {x y : V} (s : scal x y = true) (k : Q (.bl (!decide (x = y))) H) : rNe x y H Q := ⟨s, k⟩
theorem go_chain {r r' : R2} {ta tb tc : TE} (k : ta σ H fun x H1 => tb σ H1 fun y H2 => r x y H2 fun z H3 => ∃ k, z = .bl k ∧ (if k = true then tc σ H3 fun w' H4 => r' y w' H4 Q else Q (.bl false) H3)) : tChain r r' ta tb tc σ H Q := k
theorem go_inc {W P : Prop} (k : P) (h : P → W) : W := h k
end

/-! ### what stays -/
/-- all that was tracked is as it was, but for what stands at p -/
def Kp (p : Addr) (H H' : Hp) : Prop := ∀ b o, H b = some o → b ≠ p → H' b = some o
theorem Kp.refl (p : Addr) (H : Hp) : Kp p H H := fun _ _ h _ => h
theorem Kp.trans {p : Addr} {H H1 H2 : Hp} (a : Kp p H H1) (b : Kp p H1 H2) : Kp p H H2 := fun c o h n => b c o (a c o h n) n
theorem Kp.new {p q : Addr} {H : Hp} {o : HO} (n : H q = none) : Kp p H (upd H q o) := fun b u h _ => (upd_ne (ne_of_none h n)).trans h
theorem Kp.put {p : Addr} {H : Hp} {o : HO} : Kp p H (upd H p o) := fun b u h n => (upd_ne n).trans h
theorem Same.kp {p : Addr} {H H' : Hp} (s : Same H H') : Kp p H H' := fun b o h _ => s b o h
theorem Kp.seqL {p a : Addr} {K : PySem.W.Frag} {H H' : Hp} {xs : List V} (e : Kp p H H') (h : SqL K H a xs) (n : a ≠ p) : SqL K H' a xs := by
  rcases h with (h | ⟨o, h⟩) | h
  · exact .inl (.inl (e _ _ h n))
  · exact .inl (.inr ⟨o, e _ _ h n⟩)
  · exact .inr h
theorem Kp.seqT {p a : Addr} {K : PySem.W.Frag} {H H' : Hp} {xs : List V} (e : Kp p H H') (h : SqT K H a xs) (n : a ≠ p) : SqT K H' a xs := by
  rcases h with (h | ⟨o, h⟩) | h
  · exact .inl (.inl (e _ _ h n))
  · exact .inl (.inr ⟨o, e _ _ h n⟩)
  · exact .inr h
theorem upd_here {H : Hp} {p : Addr} {o : HO} (_ : H p = none) : upd H p o p = some o := upd_same
theorem upd_keep {H : Hp} {p b : Addr} {o u : HO} (n : H p = none) (h : H b = some u) : upd H p o b = some u := (upd_ne (ne_of_none h n)).trans h
theorem same_at {H H' : Hp} {a : Addr} {o : HO} (s : Same H H') (h : H a = some o) : H' a = some o := s a o h
theorem kp_at {p : Addr} {H H' : Hp} {a : Addr} {o : HO} (s : Kp p H H') (n : a ≠ p) (h : H a = some o) : H' a = some o := s a o h n
theorem upd_at {H : Hp} {l a : Addr} {o u : HO} (n : a ≠ l) (h : H a = some o) : upd H l u a = some o := (upd_ne n).trans h
theorem Same.new {q : Addr} {H : Hp} {o : HO} (n : H q = none) : Same H (upd H q o) := fun b u h => upd_keep n h

theorem HD.int {y : Sys} {K : PySem.W.Frag} {mg : Str → Option Value} (S : HD y K mg) {x : Str} {i : Int} (c : (He.Fa.int x i).ok K = true) : ∃ t, mg x = some (.int i t) := by
  have c2 : (match PySem.W.nsIn K mainGlobals x with
    | some (some (.int j _)) => decide (j = i)
    | _ => false) = true := c
  split at c2
  · rename_i j t e
    have ej : j = i := of_decide_eq_true c2
    subst ej
    exact ⟨t, S.gl _ _ e⟩
  · cases c2

/-! ### operators and properties by bundles; calls without arguments -/
def Op (P : Program) (w : World) (K : PySem.W.Frag) (mg : Str → Option Value) (base : Heap) (CX : CXT) (k : Nat) (C : Addr) (m : Str) (sp : Sp) : Prop :=
  ∃ f fd ps, FnOk P w K mg base CX k f fd ps sp ∧ PySem.W.findIn K (.ref C) m = some (some (.ref f)) ∧ PySem.W.isFn K (.ref f) = true ∧ Binds K fd ps []
def Pr (P : Program) (w : World) (K : PySem.W.Frag) (mg : Str → Option Value) (base : Heap) (CX : CXT) (k : Nat) (C : Addr) (m : Str) (sp : Sp) : Prop :=
  ∃ p f fd ps, FnOk P w K mg base CX k f fd ps sp ∧ Cls K C ∧ PropOf K C m p f ∧ Binds K fd ps []
section
variable {X : Cx} {CX : CXT} {j k : Nat} {x m : Str} {C : Addr} {sp : Sp} {E : XK} {p pos apos : Pos} {e o : Expr} {es : List Expr} {t : TA} {ta : TE}
theorem op_own {op : CmpOp} (c : Op X.prog X.w X.K X.mg X.base CX k C (cmpInfo op).2.1 sp) (hop : ∀ a b, compareOp op a b = richCompare op a b) (hr : Room j X.A) (hk : k ≤ j) (hx : Passes CX X E) :
    OpR X (compareOp op) (rOwnC X.K C sp E) := by
  obtain ⟨f, fd, ps, F, h1, h2, b⟩ := c
  exact op_ownC hop h1 h2 F b (hr.mono hk) hx
theorem op_neq (c : Op X.prog X.w X.K X.mg X.base CX k C "__eq__" sp) (hne : PySem.W.findIn X.K (.ref C) "__ne__" = some (some (.builtin "object.__ne__"))) (hm : PySem.W.mroIn X.K C (.type "object") = some true)
    (hr : Room j X.A) (hk : k + 1 ≤ j) (hx : Passes CX X E) : OpR X (compareOp .NotEq) (rNeC X.K C sp E) := by
  obtain ⟨f, fd, ps, F, h1, h2, b⟩ := c
  exact op_neC hne hm h1 h2 F b (hr.mono hk) hx
theorem pe_f0 (c : Cl X.prog X.w X.K X.mg X.base CX k x sp) (hr : Room j X.A) (hk : k ≤ j) (hx : Passes CX X E) (hg : Gl X x := by rfl) (hdb : (x == ("__debug__" : Str)) = false := by decide) :
    PE X (.Call (.Name x p) [] [] pos) (tCall sp [] E tNil) := by
  obtain ⟨f, fd, ps, F, hm, kp, b⟩ := c
  exact pe_call0 F (hr.mono hk) hg hm kp b .nil hx hdb
theorem pe_prp (c : Pr X.prog X.w X.K X.mg X.base CX k C m sp) (hr : Room j X.A) (hk : k + 1 ≤ j) (hx : Passes CX X.nox E) (he : PE X e ta)
    (hab : attributeBase e m X.env (eval e X.env) = eval e X.env := by rfl) : PE X (.Attribute e m pos) (tProp C sp [] E ta) := by
  obtain ⟨q, f, fd, ps, F, cl, hp, b⟩ := c
  exact pe_prop he cl hp F (hr.mono hk) b .nil hx hab
end

/-! ### new objects, the heap behind them by a letter -/
section
variable {H : Hp} {Q : VK} {K : PySem.W.Frag}
theorem newL {xs : List V} (h : xs.length ≤ 1000) (k : ∀ p H', H p = none → Same H H' → H' p = some (.lst xs) → Q (.ref p) H') : rNewL xs H Q := newL_raw h fun p n => k p _ n (Same.new n) upd_same
theorem newT {xs : List V} (h : xs.length ≤ 1000) (k : ∀ p H', H p = none → Same H H' → H' p = some (.tup xs) → Q (.ref p) H') : rNewT xs H Q := newT_raw h fun p n => k p _ n (Same.new n) upd_same
theorem newSl {a : Addr} {lo hi : Option Int} {xs ys : List V} (h : SqL K H a xs) (e : cutV xs lo hi = ys) (k : ∀ p H', H p = none → Same H H' → H' p = some (.lst ys) → Q (.ref p) H') : rSlL K (.ref a) lo hi H Q := by
  subst e
  exact ⟨a, xs, rfl, h, fun p n => k p _ n (Same.new n) upd_same⟩
theorem newLstOf {a : Addr} {ys : List V} (h : SqL K H a ys ∨ SqT K H a ys) (k : ∀ l H', H l = none → Same H H' → H' l = some (.lst ys) → Q (.ref l) H') : rLstOf K [.ref a] H Q := ⟨a, ys, rfl, h, fun p n => k p _ n (Same.new n) upd_same⟩
theorem newCat {a b : Addr} {xs ys zs : List V} (ha : H a = some (.lst xs)) (hb : H b = some (.lst ys)) (sz : zs.length ≤ 100000) (e : xs ++ ys = zs) (k : ∀ l H', H l = none → Same H H' → H' l = some (.lst zs) → Q (.ref l) H') : rCat (.ref a) (.ref b) H Q := by
  subst e
  rw [List.length_append] at sz
  exact ⟨a, b, xs, ys, rfl, rfl, ha, hb, Nat.le_trans sz (by decide), fun p n => k p _ n (Same.new n) upd_same⟩
end

/-! ### fields -/
theorem lk_here {k : Str} {v : V} {r : List (Str × V)} : List.lookup k ((k, v) :: r) = some v := by
  have e : (k == k) = true := beq_self_eq_true k
  simp only [List.lookup, e]
theorem lk_skip {k g : Str} {v w : V} {r : List (Str × V)} (h : (k == g) = false) (q : List.lookup k r = some v) : List.lookup k ((g, w) :: r) = some v := by
  simp only [List.lookup, h]
  exact q
theorem lk_nil {k : Str} : List.lookup k ([] : List (Str × V)) = none := rfl
theorem lk_no {k g : Str} {w : V} {r : List (Str × V)} (h : (k == g) = false) (q : List.lookup k r = none) : List.lookup k ((g, w) :: r) = none := by
  simp only [List.lookup, h]
  exact q
theorem put_nil {f : Str} {v : V} : putF f v [] = [(f, v)] := rfl
theorem put_here {f : Str} {v x : V} {r : List (Str × V)} : putF f v ((f, x) :: r) = (f, v) :: r := if_pos rfl
theorem put_skip {f g : Str} {v x : V} {r r' : List (Str × V)} (h : ¬ g = f) (q : putF f v r = r') : putF f v ((g, x) :: r) = (g, x) :: r' := (if_neg h).trans (congrArg _ q)
def rSFld (K : PySem.W.Frag) (f : Str) (y x : V) (H : Hp) (R : Hp → Prop) : Prop := ∃ a C dx fs, x = .ref a ∧ H a = some (.ins C dx fs) ∧ Cls K C ∧ NoAttr K C f ∧ fs.length < 1000 ∧ R (upd H a (.ins C dx (putF f y fs)))
theorem go_sfld {K : PySem.W.Frag} {σ : St} {H : Hp} {D : Ends} {ta tv : TE} {f : Str} (k : tv σ H fun y H1 => ta σ H1 fun x H2 => rSFld K f y x H2 (D.nx σ)) : sFld K ta tv f D σ H := k
theorem go_sfldx {K : PySem.W.Frag} {H : Hp} {a C dx : Addr} {fs fs' : List (Str × V)} {f : Str} {y : V} {R : Hp → Prop} (h : H a = some (.ins C dx fs)) (c : Cls K C) (n : NoAttr K C f) (e : putF f y fs = fs') (l : fs.length < 1000)
    (k : R (upd H a (.ins C dx fs'))) : rSFld K f y (.ref a) H R := by
  subst e
  exact ⟨a, C, dx, fs, rfl, h, c, n, l, k⟩

def rCVal (K : PySem.W.Frag) (f : Str) (x : V) (H : Hp) (Q : VK) : Prop := ∃ C mc v u, x = .ref C ∧ ClX.CRead K C mc ∧ ClX.CVal K C mc f v u ∧ Q v H
theorem go_cval {K : PySem.W.Frag} {σ : St} {H : Hp} {Q : VK} {ta : TE} {f : Str} (k : ta σ H fun x H1 => rCVal K f x H1 Q) : ClX.tCVal K ta f σ H Q := k
theorem go_cvalx {K : PySem.W.Frag} {H : Hp} {Q : VK} {C : Addr} {mc u : Value} {v : V} {f : Str} (c : ClX.CRead K C mc) (d : ClX.CVal K C mc f v u) (k : Q v H) : rCVal K f (.ref C) H Q := ⟨C, mc, v, u, rfl, c, d, k⟩

/-! ### data of numbers -/
theorem dpInts {K : PySem.W.Frag} {H : Hp} : ∀ ns : List Int, DpAll K H (ns.map V.int) (ns.map PyData.int)
  | [] => .nil
  | n :: ns => .cons (.int n) (dpInts ns)
theorem layInts : ∀ ns : List Int, PyData.canLayAll0 (ns.map PyData.int) = true
  | [] => rfl
  | n :: ns => by
    show PyData.canLayAll0 (PyData.int n :: ns.map PyData.int) = true
    rw [PyData.canLayAll0, layInts ns]
    rfl
theorem depthInts : ∀ ns : List Int, PyData.depthAll (ns.map PyData.int) ≤ 1
  | [] => by decide
  | n :: ns => by
    have h := depthInts ns
    show PyData.depthAll (PyData.int n :: ns.map PyData.int) ≤ 1
    rw [PyData.depthAll]
    have e : (PyData.int n).depth ≤ 1 := by rw [PyData.depth]; omega
    omega
theorem shInts (ns : List Int) : SeqAt.shaped (.list (ns.map PyData.int)) = true := by
  unfold SeqAt.shaped
  rw [PyData.canLay0, layInts, PyData.depth]
  have := depthInts ns
  simp
  omega
theorem eqvInts : ∀ ns ms : List Int, PyData.eqvAll (ns.map PyData.int) (ms.map PyData.int) = decide (ns = ms)
  | [], [] => by rw [List.map_nil, PyData.eqvAll]; rfl
  | [], _ :: _ => by rw [List.map_nil, List.map_cons, PyData.eqvAll]; rfl
  | _ :: _, [] => by rw [List.map_nil, List.map_cons, PyData.eqvAll]; rfl
  | n :: ns, m :: ms => by
    rw [List.map_cons, List.map_cons, PyData.eqvAll, eqvInts ns ms, PyData.eqv]
    by_cases h : n = m
    · by_cases h2 : ns = ms
      · subst h h2; simp
      · simp [h, h2]
    · simp [h]
theorem go_neInts {K : PySem.W.Frag} {H : Hp} {Q : VK} {a b : Addr} {ns ms : List Int} (ha : SqL K H a (ns.map V.int)) (hb : SqL K H b (ms.map V.int)) (k : Q (.bl (!decide (ns = ms))) H) :
    rNeD K (.ref a) (.ref b) H Q := by
  refine ⟨_, _, .lst ha (dpInts ns), .lst hb (dpInts ms), shInts ns, shInts ms, ?_⟩
  rw [PyData.eqv, eqvInts]
  exact k
theorem go_eqInts {K : PySem.W.Frag} {H : Hp} {Q : VK} {a b : Addr} {ns ms : List Int} (ha : SqL K H a (ns.map V.int)) (hb : SqL K H b (ms.map V.int)) (k : Q (.bl (decide (ns = ms))) H) :
    rEqD K (.ref a) (.ref b) H Q := by
  refine ⟨_, _, .lst ha (dpInts ns), .lst hb (dpInts ms), shInts ns, shInts ms, ?_⟩
  rw [PyData.eqv, eqvInts]
  exact k
theorem atI_mod {α : Type} {xs : List α} {i : Int} (h0 : 0 ≤ i) (h1 : i < xs.length) : ∃ v, atI xs i = some v ∧ v ∈ xs := by
  obtain ⟨j, rfl⟩ := Int.eq_ofNat_of_zero_le h0
  have hj : j < xs.length := by omega
  exact ⟨xs[j], atI_nat (by simp [hj]), List.getElem_mem hj⟩

theorem mixOk {x b c1 c2 c3 : Int} (h0 : 0 ≤ x) (h1 : x < 4294967296) (b0 : 0 ≤ b) (b1 : b ≤ 1000000) (d1 : 0 ≤ c1) (e1 : c1 ≤ 1000000) (d2 : 0 ≤ c2) (e2 : c2 ≤ 1000000) (d3 : 0 ≤ c3) (e3 : c3 ≤ 1000000) :
    (x * (2 * b + c1) + c2 * b * b + c3).natAbs < 2 ^ 64 := by
  have u : x * (2 * b + c1) ≤ 4294967296 * 3000000 := Int.mul_le_mul (by omega) (by omega) (by omega) (by omega)
  have u0 : 0 ≤ x * (2 * b + c1) := Int.mul_nonneg h0 (by omega)
  have v : c2 * b ≤ 1000000 * 1000000 := Int.mul_le_mul e2 b1 b0 (by omega)
  have v0 : 0 ≤ c2 * b := Int.mul_nonneg d2 b0
  have w : c2 * b * b ≤ 1000000 * 1000000 * 1000000 := Int.mul_le_mul v b1 b0 (by omega)
  have w0 : 0 ≤ c2 * b * b := Int.mul_nonneg v0 b0
  omega

theorem cut_upto (xs : List V) (k : Nat) : cutV xs none (some (k : Int)) = xs.take k := by
  unfold cutV
  rw [HT.sIx_nat, HT.sIx_none, List.drop_zero, Nat.sub_zero]
  by_cases h : k ≤ xs.length
  · rw [Nat.min_eq_left h]
  · rw [Nat.min_eq_right (by omega), List.take_length, List.take_of_length_le (by omega)]
theorem cut_from (xs : List V) (k : Nat) : cutV xs (some (k : Int)) none = xs.drop k := by
  unfold cutV
  rw [HT.sIx_nat, HT.sIx_none]
  by_cases h : k ≤ xs.length
  · rw [Nat.min_eq_left h, List.take_of_length_le (by rw [List.length_drop]; omega)]
  · rw [Nat.min_eq_right (by omega), List.drop_length, List.take_nil, List.drop_of_length_le (by omega)]

/-! ### rules whose reading names the written part: told of a part that is the same -/
theorem opk {X : Cx} {f : Value → Value → Sem Value} {r : PySem.W.Frag → R2} {K' : PySem.W.Frag} (h : X.K = K') (o : OpR X f (r X.K)) : OpR X f (r K') := by
  subst h
  exact o
theorem ixk {X : Cx} {r : PySem.W.Frag → R2} {K' : PySem.W.Frag} (h : X.K = K') (o : IxR X (r X.K)) : IxR X (r K') := by
  subst h
  exact o
theorem cak {X : Cx} {f : Value} {r : PySem.W.Frag → List V → Hp → VK → Prop} {K' : PySem.W.Frag} (h : X.K = K') (o : CallR X f (r X.K)) : CallR X f (r K') := by
  subst h
  exact o
theorem pe_fldk {X : Cx} {e : Expr} {f : Str} {pos : Pos} {ta : TE} {K' : PySem.W.Frag} (h : X.K = K') (he : PE X e ta) (hb : attributeBase e f X.env (eval e X.env) = eval e X.env) : PE X (.Attribute e f pos) (tFld K' ta f) := by
  subst h
  exact pe_fld he hb

theorem tyIns {K : PySem.W.Frag} {H : Hp} {a C dx : Addr} {fs : List (Str × V)} (c : InsC K C) (h : H a = some (.ins C dx fs)) : TyX K H (.ref a) (.ref C) := .base (.ins h c.cl c.ha c.hn c.ht c.hm)
theorem go_own {K : PySem.W.Frag} {H : Hp} {Q : VK} {a C dx : Addr} {fs : List (Str × V)} {sp : Sp} {E : XK} {y : V} {t : Value} (h : H a = some (.ins C dx fs)) (ty : TyX K H y t) (n : PySem.W.notFirst K C t = true) (k : sp [.ref a, y] H Q E) :
    rOwnC K C sp E (.ref a) y H Q := ⟨a, dx, fs, t, rfl, h, ty, n, k⟩
theorem go_nec {K : PySem.W.Frag} {H : Hp} {Q : VK} {a C dx : Addr} {fs : List (Str × V)} {sp : Sp} {E : XK} {y : V} {t : Value} (h : H a = some (.ins C dx fs)) (ty : TyX K H y t) (n : PySem.W.notFirst K C t = true)
    (k : sp [.ref a, y] H (fun v H' => ∃ r, v = .bl r ∧ Q (.bl (!r)) H') E) : rNeC K C sp E (.ref a) y H Q := ⟨a, dx, fs, t, rfl, h, ty, n, k⟩

theorem op_ownk {X : Cx} {CX : CXT} {j k : Nat} {C : Addr} {sp : Sp} {E : XK} {op : CmpOp} {K' : PySem.W.Frag} (h : X.K = K') (c : Op X.prog X.w X.K X.mg X.base CX k C (cmpInfo op).2.1 sp) (hop : ∀ a b, compareOp op a b = richCompare op a b) (hr : Room j X.A) (hk : k ≤ j)
    (hx : Passes CX X E) : OpR X (compareOp op) (rOwnC K' C sp E) := by
  subst h
  exact op_own c hop hr hk hx
theorem op_neqk {X : Cx} {CX : CXT} {j k : Nat} {C : Addr} {sp : Sp} {E : XK} {K' : PySem.W.Frag} (h : X.K = K') (c : Op X.prog X.w X.K X.mg X.base CX k C "__eq__" sp) (hne : PySem.W.findIn X.K (.ref C) "__ne__" = some (some (.builtin "object.__ne__"))) (hm : PySem.W.mroIn X.K C (.type "object") = some true)
    (hr : Room j X.A) (hk : k + 1 ≤ j) (hx : Passes CX X E) : OpR X (compareOp .NotEq) (rNeC K' C sp E) := by
  subst h
  exact op_neq c hne hm hr hk hx

/-! ### great numbers -/
theorem log_lt {i : Int} {k : Nat} (h : i.natAbs < 2 ^ k) (hk : 0 < k) : i.natAbs.log2 < k := by
  by_cases z : i.natAbs = 0
  · rw [z]
    exact hk
  · exact (Nat.log2_lt z).mpr h
theorem divW {i j : Int} (h0 : 0 < j) (h1 : j < 1000000000000000000000000000000000000000000000000000000000000) : CDivW i j := by
  refine ⟨h0, Nat.lt_of_lt_of_le (log_lt (k := 200) ?_ (by decide)) (by decide)⟩
  have : (2 : Nat) ^ 200 = 1606938044258990275541962092341162602522202993782792835301376 := by decide
  omega
theorem mulI {i j : Int} (h1 : -1000000000000000000000000000000000000000000000000000000000000 < i) (h2 : i < 1000000000000000000000000000000000000000000000000000000000000)
    (h3 : -1000000000000000000000000000000000000000000000000000000000000 < j) (h4 : j < 1000000000000000000000000000000000000000000000000000000000000) : CMulW i j := by
  have e : (2 : Nat) ^ 200 = 1606938044258990275541962092341162602522202993782792835301376 := by decide
  have a := log_lt (i := i) (k := 200) (by omega) (by decide)
  have b := log_lt (i := j) (k := 200) (by omega) (by decide)
  show i.natAbs.log2 + j.natAbs.log2 < 1000000
  omega

/-! ### the laws' pen: cells, how many are begun, what is left of a great one -/
def Pen (K : PySem.W.Frag) (H : Hp) (p : Addr) (n : Nat) : Prop := ∃ (c : Addr) (ns : List Int) (b g : Int), H p = some (.lst [.ref c, .int b, .int g]) ∧ SqL K H c (ns.map V.int) ∧
  ns.length ≤ 63 ∧ 0 ≤ b ∧ b ≤ n ∧ c ≠ p
theorem Pen.mono {K : PySem.W.Frag} {H : Hp} {p : Addr} {n m : Nat} (h : Pen K H p n) (l : n ≤ m) : Pen K H p m := by
  obtain ⟨c, ns, b, g, h1, h2, h3, h4, h5, h6⟩ := h
  exact ⟨c, ns, b, g, h1, h2, h3, h4, by omega, h6⟩
theorem Pen.same {K : PySem.W.Frag} {H H' : Hp} {p : Addr} {n : Nat} (h : Pen K H p n) (s : Same H H') : Pen K H' p n := by
  obtain ⟨c, ns, b, g, h1, h2, h3, h4, h5, h6⟩ := h
  exact ⟨c, ns, b, g, s _ _ h1, s.seq h2, h3, h4, h5, h6⟩
theorem Pen.new {K : PySem.W.Frag} {H : Hp} {p q : Addr} {o : HO} {n : Nat} (h : Pen K H p n) (e : H q = none) : Pen K (upd H q o) p n := h.same (Same.new e)
def spPen (K : PySem.W.Frag) : Sp := fun vs H Q _ => ∃ (a : Addr) (ns : List Int), vs = [.ref a] ∧ SqL K H a (ns.map V.int) ∧ ∀ p H', Pen K H' p 0 → Same H H' → H p = none → Q (.ref p) H'
def spDraw (K : PySem.W.Frag) : Sp := fun vs H Q _ => ∃ (p : Addr) (m : Int) (n : Nat), vs = [.ref p, .int m] ∧ 0 < m ∧ m < 10000000000000000000000000000000000000000 ∧ Pen K H p n ∧ n < 1000000 ∧
  ∀ k H', 0 ≤ k → k < m → Pen K H' p (n + 1) → Kp p H H' → Q (.int k) H'
def spPick (K : PySem.W.Frag) : Sp := fun vs H Q _ => ∃ (p a : Addr) (xs : List V) (n : Nat), vs = [.ref p, .ref a] ∧ (SqL K H a xs ∨ SqT K H a xs) ∧ xs ≠ [] ∧ xs.length ≤ 1000 ∧ a ≠ p ∧ Pen K H p n ∧ n < 1000000 ∧
  ∀ v H', v ∈ xs → Pen K H' p (n + 1) → Kp p H H' → Q v H'
end CT
namespace CT
open PySem PySem.Spec PyProof.Rows L2
open He (ga ma fAd)

/-! ### comprehensions -/
/-- what a comprehension asks once its source is known -/
def rLc (J : It) (g : TG) (tt : TT) (te : TE) (vs : List Nat) (σ : St) (H1 : Hp) (Q : VK) : Prop := ∀ D, H1 D = none → ∃ W : Nat → Nat → Hp → Prop, (∃ m, W 0 m (upd H1 D (.lst []))) ∧ ∀ i m H, W i m H →
  (J.stop i H ∧ Q (.ref D) H) ∨ (J.go i H ∧ ∃ Nx : Hp → Prop, (∀ H', Nx H' → ∃ m', m' < m ∧ W (i + 1) m' H') ∧ ∀ x H', J.yld i H x H' → g x (wipe σ vs) H' fun σ2 H2 => wipe σ2 vs = wipe σ vs ∧ tt σ2 H2 fun b H3 =>
    if b = true then te σ2 H3 fun y H4 => ∃ acc, H4 D = some (.lst acc) ∧ acc.length < sizeLine ∧ Nx (upd H4 D (.lst (acc ++ [y]))) else Nx H3)
section
variable {σ : St} {H : Hp} {Q : VK} {K : PySem.W.Frag}
theorem go_yes {R : Bool → Hp → Prop} (k : R true H) : tYes σ H R := k
theorem go_lc {wi : TI} {g : TG} {tt : TT} {te : TE} {vs : List Nat} (k : wi σ H fun J H1 => rLc J g tt te vs σ H1 Q) : tLc wi g tt te vs σ H Q := k
def rRng1 (vs : List V) (H : Hp) (R : It → Hp → Prop) : Prop := ∃ j : Int, vs = [.int j] ∧ -(2 ^ 62) ≤ j ∧ j < 2 ^ 62 ∧ R (Itr 0 j.toNat) H
theorem go_rng1 {ta : TA} {R : It → Hp → Prop} (k : ta σ H fun vs H1 => rRng1 vs H1 R) : iRng1 ta σ H R := k
theorem go_rng1x {j : Int} {R : It → Hp → Prop} (h : -4611686018427387904 ≤ j ∧ j < 4611686018427387904) (k : R (Itr 0 j.toNat) H) : rRng1 [.int j] H R := ⟨j, rfl, h.1, h.2, k⟩
def rRng2 (vs : List V) (H : Hp) (R : It → Hp → Prop) : Prop := ∃ i j : Int, vs = [.int i, .int j] ∧ (-(2 ^ 62) ≤ i ∧ i < 2 ^ 62 ∧ -(2 ^ 62) ≤ j ∧ j < 2 ^ 62) ∧ R (Itr i (j - i).toNat) H
theorem go_rng2 {ta : TA} {R : It → Hp → Prop} (k : ta σ H fun vs H1 => rRng2 vs H1 R) : iRng2 ta σ H R := k
theorem go_rng2x {i j : Int} {R : It → Hp → Prop} (h : (-4611686018427387904 ≤ i ∧ i < 4611686018427387904) ∧ -4611686018427387904 ≤ j ∧ j < 4611686018427387904) (k : R (Itr i (j - i).toNat) H) : rRng2 [.int i, .int j] H R :=
  ⟨i, j, rfl, ⟨h.1.1, h.1.2, h.2.1, h.2.2⟩, k⟩
def rListI (K : PySem.W.Frag) (x : V) (H : Hp) (R : It → Hp → Prop) : Prop := ∃ a, x = .ref a ∧ (∃ xs, SqL K H a xs) ∧ R (Itl K a) H
theorem go_listI {tl : TE} {R : It → Hp → Prop} (k : tl σ H fun x H1 => rListI K x H1 R) : iList K tl σ H R := k
theorem go_listIx {a : Addr} {xs : List V} {R : It → Hp → Prop} (h : SqL K H a xs) (k : R (Itl K a) H) : rListI K (.ref a) H R := ⟨a, rfl, ⟨xs, h⟩, k⟩
def rTupI (K : PySem.W.Frag) (x : V) (H : Hp) (R : It → Hp → Prop) : Prop := ∃ a, x = .ref a ∧ (∃ xs, SqT K H a xs) ∧ R (Itt K a) H
theorem go_tupI {tl : TE} {R : It → Hp → Prop} (k : tl σ H fun x H1 => rTupI K x H1 R) : iTup K tl σ H R := k
theorem go_tupIx {a : Addr} {xs : List V} {R : It → Hp → Prop} (h : SqT K H a xs) (k : R (Itt K a) H) : rTupI K (.ref a) H R := ⟨a, rfl, ⟨xs, h⟩, k⟩

/-! #### without effect on what was tracked -/
theorem lcRange {j n : Nat} {vs : List Nat} {te : TE} (f : Nat → V) (hn : n ≤ 100000) (hw : ∀ v, wipe ((wipe σ vs).set j (some v)) vs = wipe σ vs)
    (hs : ∀ (i : Nat) (H' : Hp) (Q' : VK), i < n → Same H H' → (∀ H'', Same H' H'' → Q' (f i) H'') → te ((wipe σ vs).set j (some (.int i))) H' Q')
    (k : ∀ D H', H D = none → Same H H' → H' D = some (.lst ((List.range n).map f)) → Q (.ref D) H') : rLc (Itr 0 n) (gName j) tYes te vs σ H Q := by
  intro D nD
  refine lc_range (lo := 0) (n := n) (fun i H' => Same H H' ∧ H' D = some (.lst ((List.range i).map f))) ⟨Same.new nD, upd_same⟩ ?_ fun H' ⟨s, d⟩ => k D H' nD s d
  rintro i H' hi ⟨s, d⟩
  refine ⟨hw _, ?_⟩
  refine go_yes ?_
  refine iteT ?_
  rw [Int.zero_add]
  refine hs i H' _ hi s fun H'' s2 => ?_
  refine ⟨_, s2 _ _ d, ?_, ?_, ?_⟩
  · rw [List.length_map, List.length_range]
    exact Nat.lt_of_lt_of_le (Nat.lt_of_lt_of_le hi hn) (by decide)
  · exact fun b o h => (upd_ne (ne_of_none h nD)).trans (s2 _ _ (s _ _ h))
  · rw [List.range_succ, List.map_append]
    exact upd_same
theorem lcList {j : Nat} {a : Addr} {xs : List V} {vs : List Nat} {te : TE} (f : V → V) (hn : xs.length ≤ 100000) (ha : SqL K H a xs) (hw : ∀ v, wipe ((wipe σ vs).set j (some v)) vs = wipe σ vs)
    (hs : ∀ (x : V) (H' : Hp) (Q' : VK), x ∈ xs → Same H H' → (∀ H'', Same H' H'' → Q' (f x) H'') → te ((wipe σ vs).set j (some x)) H' Q')
    (k : ∀ D H', H D = none → Same H H' → H' D = some (.lst (xs.map f)) → Q (.ref D) H') : rLc (Itl K a) (gName j) tYes te vs σ H Q := by
  intro D nD
  refine lc_list (K := K) (a := a) (xs := xs) (fun i H' => Same H H' ∧ H' D = some (.lst ((xs.take i).map f))) ⟨Same.new nD, upd_same⟩ (fun i H' _ p => p.1.seq ha) ?_ fun H' ⟨s, d⟩ => k D H' nD s (by rw [List.take_length] at d; exact d)
  rintro i x H' hi ⟨s, d⟩
  refine ⟨hw _, ?_⟩
  refine go_yes ?_
  refine iteT ?_
  obtain ⟨hlt, ex⟩ := List.getElem?_eq_some_iff.mp hi
  refine hs x H' _ (List.mem_of_getElem? hi) s fun H'' s2 => ?_
  refine ⟨_, s2 _ _ d, ?_, ?_, ?_⟩
  · rw [List.length_map, List.length_take]
    exact Nat.lt_of_lt_of_le (Nat.lt_of_lt_of_le (show min i xs.length < xs.length by omega) hn) (by decide)
  · exact fun b o h => (upd_ne (ne_of_none h nD)).trans (s2 _ _ (s _ _ h))
  · rw [List.take_add_one, hi, List.map_append]
    exact upd_same
/-- some are kept -/
theorem lcTupIf {j : Nat} {a : Addr} {xs : List V} {vs : List Nat} {tt : TT} {te : TE} (c : V → Bool) (f : V → V) (hn : xs.length ≤ 100000) (ha : SqT K H a xs) (hw : ∀ v, wipe ((wipe σ vs).set j (some v)) vs = wipe σ vs)
    (ht : ∀ (x : V) (H' : Hp) (Q' : Bool → Hp → Prop), x ∈ xs → Same H H' → (∀ H'', Same H' H'' → Q' (c x) H'') → tt ((wipe σ vs).set j (some x)) H' Q')
    (hs : ∀ (x : V) (H' : Hp) (Q' : VK), x ∈ xs → c x = true → Same H H' → (∀ H'', Same H' H'' → Q' (f x) H'') → te ((wipe σ vs).set j (some x)) H' Q')
    (k : ∀ D H', H D = none → Same H H' → H' D = some (.lst ((xs.filter c).map f)) → Q (.ref D) H') : rLc (Itt K a) (gName j) tt te vs σ H Q := by
  intro D nD
  refine lc_tup (K := K) (a := a) (xs := xs) (fun i H' => Same H H' ∧ H' D = some (.lst (((xs.take i).filter c).map f))) ⟨Same.new nD, upd_same⟩ (fun i H' _ p => ?_) ?_ fun H' ⟨s, d⟩ => k D H' nD s (by rw [List.take_length] at d; exact d)
  · obtain ⟨s, _⟩ := p
    rcases ha with (h | ⟨o, h⟩) | h
    · exact .inl (.inl (s _ _ h))
    · exact .inl (.inr ⟨o, s _ _ h⟩)
    · exact .inr h
  rintro i x H' hi ⟨s, d⟩
  refine ⟨hw _, ?_⟩
  have hx := List.mem_of_getElem? hi
  obtain ⟨hlt, ex⟩ := List.getElem?_eq_some_iff.mp hi
  have step : (xs.take (i + 1)).filter c = (xs.take i).filter c ++ (if c x = true then [x] else []) := by
    rw [List.take_add_one, hi, List.filter_append]
    cases e : c x <;> simp [e]
  refine ht x H' _ hx s fun H1 s1 => ?_
  refine go_b (fun e => ?_) fun e => ?_
  · refine hs x H1 _ hx e (s.trans s1) fun H'' s2 => ?_
    refine ⟨_, s2 _ _ (s1 _ _ d), ?_, ?_, ?_⟩
    · rw [List.length_map]
      have q := List.length_filter_le c (xs.take i)
      rw [List.length_take] at q
      exact Nat.lt_of_lt_of_le (Nat.lt_of_lt_of_le (show ((xs.take i).filter c).length < xs.length by omega) hn) (by decide)
    · exact fun b o h => (upd_ne (ne_of_none h nD)).trans (s2 _ _ (s1 _ _ (s _ _ h)))
    · rw [step, if_pos e, List.map_append]
      exact upd_same
  · refine ⟨s.trans s1, ?_⟩
    rw [step, if_neg (by rw [e]; exact Bool.false_ne_true), List.append_nil]
    exact s1 _ _ d
end

section
variable {σ : St} {H : Hp} {K : PySem.W.Frag}
theorem go_gtup {n : Nat} {t : TGs} {a : Addr} {xs : List V} {R : St → Hp → Prop} (h : SqT K H a xs) (e : xs.length = n) (k : t xs σ H R) : gTup K n t (.ref a) σ H R := ⟨a, xs, rfl, h, e, k⟩
theorem go_gcons {t : TG} {u : TGs} {v : V} {r : List V} {R : St → Hp → Prop} (k : t v σ H fun σ' H' => u r σ' H' R) : gCons t u (v :: r) σ H R := ⟨v, r, rfl, k⟩
theorem go_gnil {R : St → Hp → Prop} (k : R σ H) : gNil [] σ H R := ⟨rfl, k⟩
end
section
variable {σ : St} {H : Hp} {K : PySem.W.Frag} {Q : VK}
/-- a new instance -/
def rMake (C : Addr) (sp : Sp) (E : XK) (vs : List V) (H1 : Hp) (Q : VK) : Prop := ∀ x dx, H1 x = none → H1 dx = none → dx ≠ x → sp (.ref x :: (vs ++ [])) (upd (upd H1 dx (.own x)) x (.ins C dx [])) (fun v H2 => v = .non ∧ Q (.ref x) H2) E
theorem go_make {C : Addr} {sp : Sp} {E : XK} {t : TA} (k : t σ H fun vs H1 => rMake C sp E vs H1 Q) : tMake C sp [] E t σ H Q := k
/-- o.m(..) -/
def rMeth (C : Addr) (m : Str) (sp : Sp) (E : XK) (t : TA) (σ : St) (x : V) (H1 : Hp) (Q : VK) : Prop := ∃ a dx fs, x = .ref a ∧ H1 a = some (.ins C dx fs) ∧ fs.lookup m = none ∧ t σ H1 fun vs H2 => sp (x :: (vs ++ [])) H2 Q E
theorem go_meth {C : Addr} {m : Str} {sp : Sp} {E : XK} {ta : TE} {t : TA} (k : ta σ H fun x H1 => rMeth C m sp E t σ x H1 Q) : tMeth C m sp [] E ta t σ H Q := k
theorem go_methx {C a dx : Addr} {fs : List (Str × V)} {m : Str} {sp : Sp} {E : XK} {t : TA} (h : H a = some (.ins C dx fs)) (l : fs.lookup m = none) (k : t σ H fun vs H2 => sp (.ref a :: (vs ++ [])) H2 Q E) : rMeth C m sp E t σ (.ref a) H Q := ⟨a, dx, fs, rfl, h, l, k⟩
end
/-! ### loops -/
def rFor (J : It) (g : TG) (tb : TS) (D : Ends) (σ : St) (H : Hp) : Prop := ∃ W : Nat → Nat → St → Hp → Prop, (∃ m, W 0 m σ H) ∧ ∀ i m σ H, W i m σ H →
  (J.stop i H ∧ D.nx σ H) ∨ (J.go i H ∧ ∃ N : St → Hp → Prop, (∀ σ' H', N σ' H' → ∃ m', m' < m ∧ W (i + 1) m' σ' H') ∧ ∀ x H', J.yld i H x H' → g x σ H' fun σ2 H2 => tb { D with nx := N, ct := N, bk := D.nx } σ2 H2)
section
variable {σ : St} {H : Hp} {D : Ends} {K : PySem.W.Frag} {g : TG} {tb : TS}
theorem go_for {wi : TI} (k : wi σ H fun J H1 => rFor J g tb D σ H1) : tFor wi g tb D σ H := k
theorem forRange {lo : Int} {n : Nat} (Pv : Nat → St → Hp → Prop) (h0 : Pv 0 σ H)
    (hs : ∀ i σ H, i < n → Pv i σ H → g (.int (lo + i)) σ H fun σ2 H2 => tb { D with nx := Pv (i + 1), ct := Pv (i + 1), bk := D.nx } σ2 H2) (hd : ∀ σ H, Pv n σ H → D.nx σ H) : rFor (Itr lo n) g tb D σ H := for_range Pv h0 hs hd
theorem forList {a : Addr} {xs : List V} (Pv : Nat → St → Hp → Prop) (h0 : Pv 0 σ H) (hl : ∀ i σ H, i ≤ xs.length → Pv i σ H → SqL K H a xs)
    (hs : ∀ i x σ H, xs[i]? = some x → Pv i σ H → g x σ H fun σ2 H2 => tb { D with nx := Pv (i + 1), ct := Pv (i + 1), bk := D.nx } σ2 H2) (hd : ∀ σ H, Pv xs.length σ H → D.nx σ H) : rFor (Itl K a) g tb D σ H := for_list Pv h0 hl hs hd
theorem forTup {a : Addr} {xs : List V} (Pv : Nat → St → Hp → Prop) (h0 : Pv 0 σ H) (hl : ∀ i σ H, i ≤ xs.length → Pv i σ H → SqT K H a xs)
    (hs : ∀ i x σ H, xs[i]? = some x → Pv i σ H → g x σ H fun σ2 H2 => tb { D with nx := Pv (i + 1), ct := Pv (i + 1), bk := D.nx } σ2 H2) (hd : ∀ σ H, Pv xs.length σ H → D.nx σ H) : rFor (Itt K a) g tb D σ H := for_tup Pv h0 hl hs hd
theorem go_all {a : Addr} {bs : List Bool} {Q : VK} (h : SqL K H a (bs.map V.bl)) (k : Q (.bl (bs.all id)) H) : rAll K [.ref a] H Q := ⟨a, bs, rfl, h, k⟩
end

/-! ### the pen, used -/
section
variable {K : PySem.W.Frag} {H H' : Hp} {p a : Addr} {n : Nat} {Q : VK} {E : XK}
theorem Pen.lst (h : Pen K H p n) : ∃ xs, H p = some (.lst xs) := by
  obtain ⟨_, _, _, _, hp, _⟩ := h
  exact ⟨_, hp⟩
theorem Kp.free (k : Kp p H H') (h : Pen K H' p n) (e : H' a = none) : H a = none := by
  obtain ⟨xs, hp⟩ := h.lst
  cases q : H a with
  | none => rfl
  | some o =>
    by_cases z : a = p
    · rw [z, hp] at e
      cases e
    · rw [k a o q z] at e
      cases e
theorem Pen.ne_new (h : Pen K H p n) (e : H a = none) : a ≠ p := fun z => by
  obtain ⟨xs, hp⟩ := h.lst
  rw [z, hp] at e
  cases e
theorem Pen.ne_lst {xs : List V} (h : Pen K H p n) (e : H a = some (.lst xs)) (d : ∀ c b g, xs ≠ [.ref c, .int b, .int g]) : a ≠ p := fun z => by
  obtain ⟨c, _, b, g, hp, _⟩ := h
  rw [z, hp] at e
  cases e
  exact d c b g rfl
theorem Pen.ne_ins {C dx : Addr} {fs : List (Str × V)} (h : Pen K H p n) (e : H a = some (.ins C dx fs)) : a ≠ p := fun z => by
  obtain ⟨xs, hp⟩ := h.lst
  rw [z, hp] at e
  cases e
theorem draw_go {m : Int} (hP : Pen K H p n) (hn : n < 1000000) (h0 : 0 < m) (h1 : m < 10000000000000000000000000000000000000000) (k : ∀ i H', 0 ≤ i → i < m → Pen K H' p (n + 1) → Kp p H H' → Q (.int i) H') : spDraw K [.ref p, .int m] H Q E :=
  ⟨p, m, n, rfl, h0, h1, hP, hn, k⟩
theorem pick_new {xs : List V} (hP : Pen K H p n) (hn : n < 1000000) (nq : H a = none) (hx : xs ≠ []) (hl : xs.length ≤ 1000) (k : ∀ v H', v ∈ xs → Pen K H' p (n + 1) → Kp p H H' → H' a = some (.lst xs) → Q v H') :
    spPick K [.ref p, .ref a] (upd H a (.lst xs)) Q E := by
  have ap := hP.ne_new nq
  refine ⟨p, a, xs, n, rfl, .inl (SqL.of upd_same), hx, hl, ap, hP.new nq, hn, fun v H' hv P' k' => k v H' hv P' ((Kp.new nq).trans k') (k' _ _ upd_same ap)⟩
theorem pick_at {xs : List V} (hP : Pen K H p n) (hn : n < 1000000) (ha : H a = some (.lst xs)) (ap : a ≠ p) (hx : xs ≠ []) (hl : xs.length ≤ 1000) (k : ∀ v H', v ∈ xs → Pen K H' p (n + 1) → Kp p H H' → Q v H') :
    spPick K [.ref p, .ref a] H Q E := ⟨p, a, xs, n, rfl, .inl (SqL.of ha), hx, hl, ap, hP, hn, k⟩
end

/-! ### reprs of lists of truth values -/
def okBools (bs : List Bool) : Bool := (PyData.list (bs.map PyData.bool)).showable && (!(PyData.list (bs.map PyData.bool)).hasDict && (decide ((PyData.list (bs.map PyData.bool)).depth ≤ 60) && decide ((PyData.list (bs.map PyData.bool)).shown.length ≤ sizeLine)))
theorem dpBools {K : PySem.W.Frag} {H : Hp} : ∀ bs : List Bool, DpAll K H (bs.map V.bl) (bs.map PyData.bool)
  | [] => .nil
  | b :: bs => .cons (.bl b) (dpBools bs)
theorem repr_bools {K : PySem.W.Frag} {H : Hp} {Q : VK} {a : Addr} {bs : List Bool} (h : SqL K H a (bs.map V.bl)) (c : okBools bs = true) (k : Q (.str (PyData.list (bs.map PyData.bool)).shown) H) : rRepr K [.ref a] H Q := by
  unfold okBools at c
  simp only [Bool.and_eq_true, Bool.not_eq_true', decide_eq_true_eq] at c
  exact ⟨_, _, rfl, .lst h (dpBools bs), c.1, c.2.1, c.2.2.1, c.2.2.2, k⟩

/-! ### greatest common divisors -/
def gc (t b : Int) : Int := (Nat.gcd t.natAbs b.natAbs : Nat)
theorem gc_pos {t b : Int} (h : 0 < b) : 0 < gc t b := by
  have := Nat.gcd_pos_of_pos_right t.natAbs (show 0 < b.natAbs by omega)
  unfold gc
  omega
theorem gc_le {t b : Int} (h : 0 < b) : gc t b ≤ b := by
  have := Nat.gcd_le_right t.natAbs (show 0 < b.natAbs by omega)
  unfold gc
  omega
theorem gc_top {t b : Int} : gc t b * (t / gc t b) = t := Int.mul_ediv_cancel' (Int.ofNat_dvd_left.mpr (Nat.gcd_dvd_left _ _))
theorem gc_bot {t b : Int} : gc t b * (b / gc t b) = b := Int.mul_ediv_cancel' (Int.ofNat_dvd_left.mpr (Nat.gcd_dvd_right _ _))
theorem go_gcd {H : Hp} {Q : VK} {t b : Int} (k : Q (.int (gc t b)) H) : rGcd [.int t, .int b] H Q := ⟨t, b, rfl, k⟩
end CT
namespace CT
open PySem PySem.Spec PyProof.Rows L2
open He (ga ma fAd)

/-! ### exceptions with fields of their own -/
def spEx1 (C : Addr) (f : Str) : Sp := fun vs H Q _ => ∃ (a : Addr) (v : V), vs = [.ref a, v] ∧ H a = some (exo a C none) ∧
  ∀ dx, H dx = none → dx ≠ a → Q .non (upd (upd H dx (exd dx [(f, v)])) a (exo a C (some dx)))
def spEx2 (C : Addr) (f g : Str) : Sp := fun vs H Q _ => ∃ (a : Addr) (v w : V), vs = [.ref a, v, w] ∧ H a = some (exo a C none) ∧
  ∀ dx, H dx = none → dx ≠ a → Q .non (upd (upd H dx (exd dx [(g, w), (f, v)])) a (exo a C (some dx)))
/-- C(..) that is raised -/
def Ex (P : Program) (w : World) (K : PySem.W.Frag) (mg : Str → Option Value) (base : Heap) (k : Nat) (x : Str) (sp : Sp) : Prop :=
  ∃ fd ps, FnOk P w K mg base CX0 k (ma K (ga K x) "__init__") fd ps sp ∧ ExoC K (ga K x) (ma K (ga K x) "__init__") ∧ mg x = some (.ref (ga K x)) ∧ Binds K fd ps []
section
variable {X : Cx} {j k : Nat} {x : Str} {sp : Sp} {p pos : Pos} {e : Expr} {es : List Expr} {ta : TA}
theorem pmk_ex (c : Ex X.prog X.w X.K X.mg X.base k x sp) (hr : Room j X.A) (hk : k + 1 ≤ j) (ha : PA X (e :: es) ta) (hg : Gl X x := by rfl)
    (hdb : (x == ("__debug__" : Str)) = false := by decide) (he : starEach (e :: es) X.env = (false, eval e X.env) :: starEach es X.env := by rfl) (hpl : (backTo pos (starEach es X.env)).any (·.1) = false := by rfl) :
    PMk X (.Call (.Name x p) (e :: es) [] pos) (tMkO (ga X.K x) sp [] ta) := by
  obtain ⟨fd, ps, F, T, hm, b⟩ := c
  exact pmk_oex T.oex T.init T.fn F (hr.mono hk) b .nil (fun _ _ _ _ _ _ _ h => h.elim) hg hm ha hdb he hpl
end
section
variable {σ : St} {H : Hp} {K : PySem.W.Frag}
def rMkO (C : Addr) (sp : Sp) (vs : List V) (H1 : Hp) (Q : XK) : Prop := vs.length ≤ 1000 ∧ ∀ a, H1 a = none → sp (.ref a :: (vs ++ [])) (upd H1 a (exo a C none))
  (fun v H2 => v = .non ∧ ∃ (d : Addr) (fs : List (Str × V)), H2 a = some (exo a C (some d)) ∧ H2 d = some (exd d fs) ∧ H1 d = none ∧ Q (.ref C) (some d) (upd (del H2 a) d (.xd fs))) (fun _ _ _ => False)
theorem go_mko {C : Addr} {sp : Sp} {ta : TA} {Q : XK} (k : ta σ H fun vs H1 => rMkO C sp vs H1 Q) : tMkO C sp [] ta σ H Q := k
theorem made_heap {a d : Addr} {u1 u2 u3 : HO} (na : H a = none) : upd (del (upd (upd (upd H a u1) d u2) a u3) a) d (.xd fs) = upd H d (.xd fs) := by
  funext b
  unfold upd del
  by_cases hb : b = d
  · rw [if_pos hb, if_pos hb]
  · rw [if_neg hb, if_neg hb]
    by_cases ha : b = a
    · rw [if_pos ha, ha, na]
    · rw [if_neg ha]
      simp only [if_neg ha, if_neg hb]
theorem go_ex1 {C : Addr} {f : Str} {v : V} {Q : XK} (k : ∀ d, H d = none → Q (.ref C) (some d) (upd H d (.xd [(f, v)]))) : rMkO C (spEx1 C f) [v] H Q := by
  refine ⟨Nat.le_of_ble_eq_true rfl, fun a na => ⟨a, v, rfl, upd_same, fun dx nd ne => ⟨rfl, dx, _, upd_same, (upd_ne ne).trans upd_same, ?_, ?_⟩⟩⟩
  · rw [upd_ne ne] at nd
    exact nd
  · rw [upd_ne ne] at nd
    rw [made_heap na]
    exact k dx nd
theorem go_ex2 {C : Addr} {f g : Str} {v w : V} {Q : XK} (k : ∀ d, H d = none → Q (.ref C) (some d) (upd H d (.xd [(g, w), (f, v)]))) : rMkO C (spEx2 C f g) [v, w] H Q := by
  refine ⟨Nat.le_of_ble_eq_true rfl, fun a na => ⟨a, v, w, rfl, upd_same, fun dx nd ne => ⟨rfl, dx, _, upd_same, (upd_ne ne).trans upd_same, ?_, ?_⟩⟩⟩
  · rw [upd_ne ne] at nd
    exact nd
  · rw [upd_ne ne] at nd
    rw [made_heap na]
    exact k dx nd
def rOst (K : PySem.W.Frag) (f : Str) (y x : V) (H : Hp) (R : Hp → Prop) : Prop := ∃ a C : Addr, x = .ref a ∧ OexC K C ∧ PySem.W.findIn K (.ref C) f = some none ∧
  ((H a = some (exo a C none) ∧ ∀ dx, H dx = none → dx ≠ a → R (upd (upd H dx (exd dx [(f, y)])) a (exo a C (some dx)))) ∨
    ∃ (dx : Addr) (fs : List (Str × V)), H a = some (exo a C (some dx)) ∧ H dx = some (exd dx fs) ∧ fs.length ≤ 900 ∧ R (upd H dx (exd dx ((f, y) :: fs))))
theorem go_ost {f : Str} {to te : TE} {D : Ends} (k : te σ H fun y H1 => to σ H1 fun x H2 => rOst K f y x H2 (D.nx σ)) : tOst K f to te D σ H := k
theorem go_ost1 {a C : Addr} {f : Str} {y : V} {R : Hp → Prop} (c : OexC K C) (n : NoAttr K C f) (h : H a = some (exo a C none)) (k : ∀ dx, H dx = none → dx ≠ a → R (upd (upd H dx (exd dx [(f, y)])) a (exo a C (some dx)))) :
    rOst K f y (.ref a) H R := ⟨a, C, rfl, c, n, .inl ⟨h, k⟩⟩
theorem go_ost2 {a C dx : Addr} {f g : Str} {v y : V} {R : Hp → Prop} (c : OexC K C) (n : NoAttr K C f) (ne : dx ≠ a) (k : R (upd (upd H dx (exd dx [(f, y), (g, v)])) a (exo a C (some dx)))) :
    rOst K f y (.ref a) (upd (upd H dx (exd dx [(g, v)])) a (exo a C (some dx))) R := by
  refine ⟨a, C, rfl, c, n, .inr ⟨dx, [(g, v)], upd_same, (upd_ne ne).trans upd_same, Nat.le_of_ble_eq_true rfl, ?_⟩⟩
  have e : upd (upd (upd H dx (exd dx [(g, v)])) a (exo a C (some dx))) dx (exd dx [(f, y), (g, v)]) = upd (upd H dx (exd dx [(f, y), (g, v)])) a (exo a C (some dx)) := by
    funext b
    unfold upd
    by_cases hb : b = dx
    · rw [if_pos hb, hb, if_neg ne, if_pos rfl]
    · rw [if_neg hb, if_neg hb, if_neg hb]
  rw [e]
  exact k
end

/-! ### C(..) with defaults -/
def MkeD (P : Program) (w : World) (K : PySem.W.Frag) (mg : Str → Option Value) (base : Heap) (CX : CXT) (k : Nat) (x : Str) (sp : Sp) (dvs : List V) : Prop :=
  ∃ f fd ps ds, FnOk P w K mg base CX k f fd ps sp ∧ Mk K (ga K x) f ∧ mg x = some (.ref (ga K x)) ∧ Binds K fd ps ds ∧ Vals dvs ds
theorem pe_mked {X : Cx} {CX : CXT} {j k : Nat} {x : Str} {sp : Sp} {E : XK} {p pos : Pos} {e : Expr} {es : List Expr} {t : TA} {dvs : List V} (c : MkeD X.prog X.w X.K X.mg X.base CX k x sp dvs) (hr : Room j X.A) (hk : k + 1 ≤ j) (hx : Passes CX X E) (ha : PA X (e :: es) t) (hg : Gl X x := by rfl)
    (hdb : (x == ("__debug__" : Str)) = false := by decide) (he : starEach (e :: es) X.env = (false, eval e X.env) :: starEach es X.env := by rfl)
    (hpl : (backTo pos (starEach es X.env)).any (·.1) = false := by rfl) : PE X (.Call (.Name x p) (e :: es) [] pos) (tMake (ga X.K x) sp dvs E t) := by
  obtain ⟨f, fd, ps, ds, F, M, hm, b, v⟩ := c
  exact pe_make M F (hr.mono hk) hg hm b v hx ha hdb he hpl
def rMakeD (C : Addr) (sp : Sp) (dvs : List V) (E : XK) (vs : List V) (H1 : Hp) (Q : VK) : Prop := ∀ x dx, H1 x = none → H1 dx = none → dx ≠ x → sp (.ref x :: (vs ++ dvs)) (upd (upd H1 dx (.own x)) x (.ins C dx [])) (fun v H2 => v = .non ∧ Q (.ref x) H2) E
theorem go_maked {σ : L2.St} {H : Hp} {Q : VK} {C : Addr} {sp : Sp} {dvs : List V} {E : XK} {t : TA} (k : t σ H fun vs H1 => rMakeD C sp dvs E vs H1 Q) : tMake C sp dvs E t σ H Q := k

/-! ### what a raising def promises -/
/-- an error of the class x with one field -/
def Er1 (K : PySem.W.Frag) (x f : Str) (v : V) (H : Hp) (E : XK) : Prop := ∀ d H', H d = none → Same H H' → H' d = some (.xd [(f, v)]) → E (.ref (ga K x)) (some d) H'
def Er2 (K : PySem.W.Frag) (x f g : Str) (v w : V) (H : Hp) (E : XK) : Prop := ∀ d H', H d = none → Same H H' → H' d = some (.xd [(g, w), (f, v)]) → E (.ref (ga K x)) (some d) H'
theorem Er1.at {K : PySem.W.Frag} {x f : Str} {v : V} {H : Hp} {E : XK} (h : Er1 K x f v H E) : ∀ d, H d = none → E (.ref (ga K x)) (some d) (upd H d (.xd [(f, v)])) := fun d n => h d _ n (Same.new n) upd_same
theorem Er2.at {K : PySem.W.Frag} {x f g : Str} {v w : V} {H : Hp} {E : XK} (h : Er2 K x f g v w H E) : ∀ d, H d = none → E (.ref (ga K x)) (some d) (upd H d (.xd [(g, w), (f, v)])) := fun d n => h d _ n (Same.new n) upd_same
end CT
namespace CT
open PySem PySem.Spec PyProof.Rows L2
open He (ga ma fAd)

/-! ### lambdas that are handed on: what their raising finds -/
/-- a wish may lean on the number of the slots -/
theorem takes_len {X : Cx} {W : WX} (t : Takes X W) : Takes X (fun cls d σ H => σ.length = X.N.length → W cls d σ H) :=
  fun u s' ⟨a, B, sI, pins, σ, H, cls, d, e, I, nb, up, sky, na, os, ag, w⟩ => t u s' ⟨a, B, sI, pins, σ, H, cls, d, e, I, nb, up, sky, na, os, ag, w I.len⟩
theorem slot_set {σ : St} {i n : Nat} {v : Option V} (h : σ.length = n) (hi : i < n) : (σ.set i v)[i]? = some v := by
  rw [List.getElem?_set]
  simp [h, hi]
theorem slot_past {σ : St} {i j : Nat} {v w : Option V} (h : σ[i]? = some v) (hij : j ≠ i) : (σ.set j w)[i]? = some v := by
  rw [List.getElem?_set, if_neg hij]
  exact h
def tAskT (f c' : Addr) (q : Str) (t : Hp → VK → Prop) : TE := fun σZ HZ Q => σZ[0]? = some (some (.ref f)) ∧ HZ c' = some (LamX.CodeO c' q) ∧ t HZ Q
def rXk (K : PySem.W.Frag) (f : Str) (x : V) (H1 : Hp) (Q : VK) : Prop := ∃ (a C dd : Addr) (fs : List (Str × V)) (v : V),
  x = .ref a ∧ H1 a = some (ExK (.ref C) (some dd) a) ∧ XfC K C ∧ PySem.W.findIn K (.ref C) f = some none ∧ H1 dd = some (.xd fs) ∧ fs.lookup f = some v ∧ Q v H1
theorem go_xk {K : PySem.W.Frag} {σ : St} {H : Hp} {Q : VK} {f : Str} {te : TE} (k : te σ H fun x H1 => rXk K f x H1 Q) : tXk K f te σ H Q := k
theorem go_xkx {K : PySem.W.Frag} {H : Hp} {Q : VK} {a C dd : Addr} {fs : List (Str × V)} {f : Str} {v : V} (h : H a = some (ExK (.ref C) (some dd) a)) (c : XfC K C) (n : NoAttr K C f) (hd : H dd = some (.xd fs)) (l : fs.lookup f = some v) (k : Q v H) :
    rXk K f (.ref a) H Q := ⟨a, C, dd, fs, v, rfl, h, c, n, hd, l, k⟩
theorem go_isx {K : PySem.W.Frag} {H : Hp} {Q : VK} {a D dd : Addr} {fs : List (Str × V)} {c : V} {cv : Value} {b : Bool} (h : H a = some (ExK (.ref D) (some dd) a)) (hd : H dd = some (.xd fs)) (C : ExcC K D) (k : ClsV c cv) (e : PySem.W.kitOne K (.ref D) cv = some b)
    (q : Q (.bl b) H) : rIsK K [.ref a, c] H Q := ⟨a, D, some dd, c, cv, b, rfl, h, (fun d z => by cases z; exact ⟨fs, hd⟩), C, k, e, q⟩
/-! ### tables of code objects under the pen -/
theorem codeO_lst {c : Addr} {q : Str} {xs : List V} : LamX.CodeO c q ≠ .lst xs := fun z => by
  unfold LamX.CodeO at z
  cases z
theorem tabs_kp {T : List (Addr × Str)} {p : Addr} {H H' : Hp} (t : LamX.Tabs T H) (k : Kp p H H') (h : ∃ xs, H p = some (.lst xs)) : LamX.Tabs T H' := fun r hr => by
  obtain ⟨xs, hp⟩ := h
  obtain ⟨ps, h1, h2, h3⟩ := t r hr
  refine ⟨ps, k _ _ h1 (fun z => by rw [z, hp] at h1; cases h1), h2, fun pos cv hc => ?_⟩
  obtain ⟨c, e1, e2⟩ := h3 pos cv hc
  refine ⟨c, e1, k _ _ e2 fun z => ?_⟩
  rw [z, hp] at e2
  exact codeO_lst (Option.some.inj e2).symm
theorem tabs_same {T : List (Addr × Str)} {H H' : Hp} (t : LamX.Tabs T H) (k : Same H H') : LamX.Tabs T H' := t.ext k
theorem pen_ext {K : PySem.W.Frag} {p : Addr} {n : Nat} {H H' : Hp} (h : Pen K H p n) (e : LamX.ExtN H H') : Pen K H' p n := by
  obtain ⟨c, ns, b, g, h1, h2, h3, h4, h5, h6⟩ := h
  refine ⟨c, ns, b, g, e _ _ h1 (fun _ z => by cases z), ?_, h3, h4, h5, h6⟩
  rcases h2 with (h | ⟨o, h⟩) | h
  · exact .inl (.inl (e _ _ h fun _ z => by cases z))
  · exact .inl (.inr ⟨o, e _ _ h fun _ z => by cases z⟩)
  · exact .inr h

/-! ### a def whose code object is named; the call with a lambda -/
section
variable {P : Program} {w : World} {K : PySem.W.Frag} {mg : Str → Option Value} {base : Heap} {x qual : Str} {params : Arguments} {body : List Stmt} {scope : Scope} {dvs : List V} {kws : List (Str × V)} {f : Addr} {fd : FuncData}
theorem _root_.L2.FunD.okGD {CX : CXT} {N ps : List Str} {k : Nat} {sp : Sp} (F : L2.FunD K x qual params body scope dvs kws f fd) (S : FnScope N ps scope) (len : ∀ vs H Q E, sp vs H Q E → vs.length = ps.length)
    (hbody : ∀ (A : Around) (outer : List Env) (s : Shared) (H : Hp) (vs : List V) (Q : VK) (E : XK), A.guards = some [] → Room k (A.deeper (envOfC qual scope s.heap.objs.size f fd.code)) → sp vs H Q E →
      ∃ t, PSs (cxOf CX P w K mg base N qual scope f fd.code A outer s H E) body t ∧ t { nx := fun _ H' => Q .non H', rt := Q } (start N vs) H) : FnOkG P w K mg base CX (k + 1) f fd ps sp := by
  obtain ⟨oc, od, dV, kV, doc, pm, an, cdv, ct, osl, rfl, lk, hcd, _, _⟩ := F.ex
  refine ⟨len, fun A outer s H args us vs Q E hr hgd e0 hb r hsp => ?_⟩
  exact LamX.run_ofS (N := N) lk hcd S hr e0 hb r (len _ _ _ _ hsp) fun hr' => hbody A outer s H vs Q E hgd hr' hsp
theorem code_of (F : L2.FunD K x qual params body scope dvs kws f (fdAt K f)) : (fdAt K f).code = .ref (codeAt K f) := by
  obtain ⟨oc, od, dV, kV, doc, pm, an, cdv, ct, osl, e, lk, hcd, _, _⟩ := F.ex
  have ec : (fdAt K f).code = cdv := by rw [e]
  unfold codeAt
  rw [ec]
  cases cdv <;> first
    | rfl
    | (simp [PySem.W.codeIn] at hcd)
end
theorem pe_lam {X : Cx} {T : List (Addr × Str)} {TT : (XK → Hp → VK → Prop) → Hp → VK → Prop} {x a : Str} {g c Pt : Addr} {k : Nat} {pg : Arguments} {bg : List Stmt} {sg : Scope} {fd : FuncData} {Ng : List Str}
    {params : Arguments} {body : Expr} {scope : Scope} {t : XK → TE} {p lpos pos : Pos} (hm : X.mg x = some (.ref g)) (F : L2.FunD X.K x x pg bg sg [] [] g fd) (b : L2.Binds X.K fd [a] []) (Sg : FnScope Ng [a] sg) (hNg : Ng[0]? = some a) (hva : Vis sg a)
    (hG : ∀ cdg, LamX.GivesTo X Ng x sg g cdg bg a (X.env.qual ++ "<lambda>") TT) (TB : LamX.TabB X.base X.mg c Pt) (hcode : X.env.code = .ref c) (hmT : (Pt, X.env.qual ++ "<lambda>") ∈ T) (hu : ∀ p ∈ T, p.1 = Pt → p.2 = X.env.qual ++ "<lambda>")
    (hr : Room (k + 2) X.A) (L : LamX.LamS X.env.scope scope) (hdef : defaultsOf params X.env = ([], []))
    (hbind : ∀ (q : Str) (cl : List (Str × Addr)) (pm cv ctv : Value), bindArgs (PySem.W.kla_fn "<lambda>" q params body scope cl pm cv ctv) ⟨[], []⟩ = pure [])
    (hbody : ∀ (A : Around) (outer : List Env) (s : Shared) (H : Hp) (E : XK) (f c' : Addr), Room k (A.deeper (LamX.lamEnv X scope s.heap.objs.size f c')) → PE (LamX.lamCx X A outer s H E scope f c') body (t E))
    (hg : Gl X x := by rfl) (hdb : (x == ("__debug__" : Str)) = false := by decide) (hd : (a == ("__debug__" : Str)) = false := by decide) (hcd : (a == ("__classdict__" : Str)) = false := by decide) :
    PE X (.Call (.Name x p) [.Lambda params body scope lpos] [] pos) (LamX.tLam T TT t) := by
  obtain ⟨oc, od, dV, kV, doc, pm, an, cdv, ct, osl, rfl, lk, hcd', _, _⟩ := F.ex
  exact LamX.pe_lamcall hg hm F.kp lk hcd' b Sg hNg hva (hG _) TB hcode hmT hu hr L hdef hbind hbody hdb hd hcd
theorem go_lam {σ : St} {H : Hp} {Q : VK} {T : List (Addr × Str)} {TT : (XK → Hp → VK → Prop) → Hp → VK → Prop} {t : XK → TE} (h : LamX.Tabs T H) (k : ∀ H1, LamX.ExtN H H1 → LamX.Tabs T H1 → TT (fun E H' Q' => t E σ H' Q') H1 Q) : LamX.tLam T TT t σ H Q := ⟨h, k⟩

/-! ### values of the built-in kinds -/
inductive OddV (H : Hp) : V → String → Prop
  | non : OddV H .non "NoneType"
  | int (i : Int) : OddV H (.int i) "int"
  | bl (b : Bool) : OddV H (.bl b) "bool"
  | str (x : Str) : OddV H (.str x) "str"
  | lst {a : Addr} {xs : List V} (e : H a = some (.lst xs)) : OddV H (.ref a) "list"
  | tup {a : Addr} {xs : List V} (e : H a = some (.tup xs)) : OddV H (.ref a) "tuple"
  | dK {a : Addr} {kvs : List (Key × V)} (e : H a = some (.dK kvs)) : OddV H (.ref a) "dict"
theorem OddV.ty {K : PySem.W.Frag} {H : Hp} {v : V} {n : String} (h : OddV H v n) : TyX K H v (.type n) := by
  cases h with
  | non => exact .base .non
  | int i => exact .base (.int i)
  | bl b => exact .base (.bl b)
  | str x => exact .base (.str x)
  | lst e => exact .base (.lst e)
  | tup e => exact .base (.tup e)
  | dK e => exact .base (.dK e)
theorem OddV.ext {H H' : Hp} {v : V} {n : String} (h : OddV H v n) (x : LamX.ExtN H H') : OddV H' v n := by
  cases h with
  | non => exact .non
  | int i => exact .int i
  | bl b => exact .bl b
  | str s => exact .str s
  | lst e => exact .lst (x _ _ e fun _ z => by cases z)
  | tup e => exact .tup (x _ _ e fun _ z => by cases z)
  | dK e => exact .dK (x _ _ e fun _ z => by cases z)
theorem OddV.same {H H' : Hp} {v : V} {n : String} (h : OddV H v n) (s : Same H H') : OddV H' v n := h.ext (LamX.ExtN.of s)

theorem OddV.put {H : Hp} {l : Addr} {xs ys : List V} {v : V} {n : String} (h : OddV H v n) (e : H l = some (.lst xs)) : OddV (upd H l (.lst ys)) v n := by
  cases h with
  | non => exact .non
  | int i => exact .int i
  | bl b => exact .bl b
  | str s => exact .str s
  | @lst a zs q =>
    by_cases z : a = l
    · subst z
      exact .lst upd_same
    · exact .lst ((upd_ne z).trans q)
  | @tup a zs q => exact .tup ((upd_ne (ne_of q e (by intro z; cases z))).trans q)
  | @dK a zs q => exact .dK ((upd_ne (ne_of q e (by intro z; cases z))).trans q)
/-! ### appending, repeating, data of texts -/
section
variable {K : PySem.W.Frag} {H : Hp} {Q : VK} {σ : St}
def rBMA (K : PySem.W.Frag) (t : TA) (σ : St) (x : V) (H1 : Hp) (Q : VK) : Prop := tyV K "list" x H1 ∧ t σ H1 fun xs H2 => rAppend x xs H2 Q
theorem go_bma {to : TE} {t : TA} (k : to σ H fun x H1 => rBMA K t σ x H1 Q) : tBM K "list" rAppend to t σ H Q := k
theorem go_bmax {l : Addr} {xs : List V} {t : TA} (h : SqL K H l xs) (k : t σ H fun vs H2 => rAppend (.ref l) vs H2 Q) : rBMA K t σ (.ref l) H Q := ⟨.inl ⟨rfl, xs, h⟩, k⟩
theorem go_app {l : Addr} {xs : List V} {y : V} (h : H l = some (.lst xs)) (sz : xs.length ≤ 100000) (k : Q .non (upd H l (.lst (xs ++ [y])))) : rAppend (.ref l) [y] H Q :=
  ⟨l, xs, y, rfl, rfl, h, Nat.lt_of_le_of_lt sz (by decide), k⟩
theorem go_appl {l : Addr} {xs ys : List V} {y : V} (h : H l = some (.lst xs)) (sz : xs.length ≤ 100000) (e : xs ++ [y] = ys) (k : Q .non (upd H l (.lst ys))) : rAppend (.ref l) [y] H Q := by
  subst e
  exact go_app h sz k
theorem go_dnew (k : ∀ p, H p = none → Q (.ref p) (upd H p (.dK []))) : tDNewK σ H Q := k
theorem go_rep {l : Addr} {n : Int} {xs ys : List V} (h : H l = some (.lst xs)) (n0 : 0 ≤ n) (n1 : n ≤ 1000) (sz : xs.length ≤ 1000) (e : (List.replicate n.toNat xs).flatten = ys) (k : ∀ p, H p = none → Q (.ref p) (upd H p (.lst ys))) : rRep (.ref l) (.int n) H Q := by
  subst e
  refine ⟨l, n, xs, rfl, rfl, h, by omega, by omega, ?_, k⟩
  exact Nat.le_trans (Nat.mul_le_mul sz (show n.toNat ≤ 1000 by omega)) (by decide)
theorem dpStrs : ∀ ns : List Str, DpAll K H (ns.map V.str) (ns.map PyData.str)
  | [] => .nil
  | n :: ns => .cons (.str n) (dpStrs ns)
theorem depthStrs : ∀ ns : List Str, PyData.depthAll (ns.map PyData.str) ≤ 1
  | [] => by decide
  | n :: ns => by
    have h := depthStrs ns
    show PyData.depthAll (PyData.str n :: ns.map PyData.str) ≤ 1
    rw [PyData.depthAll]
    have e : (PyData.str n).depth ≤ 1 := by rw [PyData.depth]; omega
    omega
theorem shStrs (ns : List Str) (lay : PyData.canLayAll0 (ns.map PyData.str) = true) : SeqAt.shaped (.list (ns.map PyData.str)) = true := by
  unfold SeqAt.shaped
  rw [PyData.canLay0, lay, PyData.depth]
  have := depthStrs ns
  simp
  omega
theorem eqvStrs : ∀ ns ms : List Str, PyData.eqvAll (ns.map PyData.str) (ms.map PyData.str) = decide (ns = ms)
  | [], [] => by rw [List.map_nil, PyData.eqvAll]; rfl
  | [], _ :: _ => by rw [List.map_nil, List.map_cons, PyData.eqvAll]; rfl
  | _ :: _, [] => by rw [List.map_nil, List.map_cons, PyData.eqvAll]; rfl
  | n :: ns, m :: ms => by
    rw [List.map_cons, List.map_cons, PyData.eqvAll, eqvStrs ns ms, PyData.eqv]
    by_cases h : n = m
    · by_cases h2 : ns = ms
      · subst h h2; simp
      · simp [h, h2]
    · simp [h]
theorem go_neStrs {a b : Addr} {ns ms : List Str} (ha : SqL K H a (ns.map V.str)) (hb : SqL K H b (ms.map V.str)) (la : PyData.canLayAll0 (ns.map PyData.str) = true) (lb : PyData.canLayAll0 (ms.map PyData.str) = true) (k : Q (.bl (!decide (ns = ms))) H) :
    rNeD K (.ref a) (.ref b) H Q := by
  refine ⟨_, _, .lst ha (dpStrs ns), .lst hb (dpStrs ms), shStrs ns la, shStrs ms lb, ?_⟩
  rw [PyData.eqv, eqvStrs]
  exact k
end
theorem tabs_nil {H : Hp} {P : Addr} {q : Str} (h : H P = some (.tbl #[])) : LamX.Tabs [(P, q)] H := fun p hp => by
  cases List.mem_singleton.mp hp
  exact LamX.TabS.nil h

/-! ### the end of a law over the Hook of systems -/
theorem walk_ofGE {l : PySem.W.OpenLaw} {n k : Nat} {q : Program} {loose : List Str} {XP : (Str → Option Value) → Heap → Prop} {YP : World → Heap → Prop} {d : DefRec}
    {CX : World → CXT} {x : Str} (hn : l.most = some n) (hn2 : n ≤ sizeLine) (hdf : d.params.defaults = []) (hr : Room k callerA)
    (F : ∀ (w : World) (mg : Str → Option Value) (fa : Addr) (h : Heap), YP w h → h.Ns mainGlobals mg → mg d.name = some (.ref fa) → ∃ K : PySem.W.Frag, K.In h ∧ LawAtG l w K (CX w) k n x mg fa h)
    (hCX : ∀ (w : World) (H : Hp) (s : Shared) (e : Value) (s' : Shared), CX w [] H s (fun _ _ _ => False) e s' → False) :
    PySem.W.WalkO q loose XP YP l.row.toRowW d [] (fun f vs => PySem.call f vs) := by
  refine Att.attach_callB hn hdf fun w s0 s1 mg mb fa o pm cd doc a vs ns G Y ho hd hcd hmg hobj hints hlen hbits hg => ?_
  obtain ⟨K, KX, fd, cs, sp, hT, nT, C, hb, hsp, hF⟩ := F w mg fa _ Y G.T.g hmg
  exact law_callG KX G.T.g G.T.b G.T.builtins G.T.nolimit hg hT nT C G.T.bmain hobj hints (Nat.le_trans hlen hn2) hr hF hb
    (fun H hH hS => hsp H a ns hlen hbits hH hS) fun H e s' => hCX w H s1 e s'
theorem tabs_of {y : Sys} {K : PySem.W.Frag} {h : Heap} (KX : K.In h) (c : SaysC y h K) :
    (∀ p ∈ y.tf.map fun q => tabAt K (q.adr K), h.get? p.2 = some { cls := .none, data := .fields #[] }) ∧ (∀ p ∈ y.tf.map fun q => tabAt K (q.adr K), K.lookup p.2 = none) ∧
    ∀ p ∈ y.tf.map fun q => tabAt K (q.adr K), PySem.W.CodeHd h p.1 p.2 := by
  refine ⟨fun p hp => ?_, fun p hp => ?_, fun p hp => ?_⟩
  · obtain ⟨q, hq, rfl⟩ := List.mem_map.mp hp
    exact c.empty q hq
  · obtain ⟨q, hq, rfl⟩ := List.mem_map.mp hp
    exact c.out q hq
  · obtain ⟨q, hq, rfl⟩ := List.mem_map.mp hp
    exact PySem.W.codeHd_of_K KX (c.hd q hq)
end CT
namespace CT
open PySem PySem.Spec PyProof.Rows L2
open He (ga ma fAd)
open AutoSeq1 (wpAny_loadPart')
open MeetsSeq

/-! ### comparisons whose left operand is of a built-in kind, the right one an instance with the turned method -/
/-- the object at l is no instance of the built-in type T -/
def NoInst (l : Addr) (T : String) (s : Shared) : Prop := ∀ (prog : Program) (w : World) (A : Around) (Q : Bool → Shared → Prop) (E : Value → Shared → Prop), Q false s → wpAny (model prog w) A (isInstance (.ref l) (.type T)) Q E s
theorem dl_none_lt (l : Addr) : Gives (Builtin.«NoneType.__lt__» ⟨[.none, .ref l], []⟩) (.val (Value.notImplemented)) :=
  .of_wp fun M A E s Q h => by obtain ⟨hp, g, d, tk, os⟩ := s; wp_walk; exact ⟨_, rfl, h⟩
theorem dl_int_lt (b : Int) (u : Tok) (l C dx : Addr) : Meets (Builtin.«int.__lt__» ⟨[.int b u, .ref l], []⟩) (fun _ R s => s.heap.get? l = some (PySem.W.instObj C dx) ∧ R (.ok (.ret .notImplemented)) s) :=
  .of_wp fun prog w A R s h => by obtain ⟨hp, g, d, tk, os⟩ := s; obtain ⟨hl, h⟩ := h; wp_walk using wpAny_loadPart' hl, wpAny_load hl; exact ⟨_, rfl, h⟩
theorem dl_bool_lt (b : Bool) (l C dx : Addr) : Meets (Builtin.«int.__lt__» ⟨[.bool b, .ref l], []⟩) (fun _ R s => s.heap.get? l = some (PySem.W.instObj C dx) ∧ R (.ok (.ret .notImplemented)) s) :=
  .of_wp fun prog w A R s h => by obtain ⟨hp, g, d, tk, os⟩ := s; obtain ⟨hl, h⟩ := h; wp_walk using wpAny_loadPart' hl, wpAny_load hl; exact ⟨_, rfl, h⟩
theorem dl_str_lt (b : Str) (u : Tok) (l C dx : Addr) : Meets (Builtin.«str.__lt__» ⟨[.str b u, .ref l], []⟩) (fun _ R s => s.heap.get? l = some (PySem.W.instObj C dx) ∧ R (.ok (.ret .notImplemented)) s) :=
  .of_wp fun prog w A R s h => by obtain ⟨hp, g, d, tk, os⟩ := s; obtain ⟨hl, h⟩ := h; wp_walk using wpAny_loadPart' hl, wpAny_load hl; exact ⟨_, rfl, h⟩
theorem dl_list_lt (a l : Addr) : Meets (Builtin.«list.__lt__» ⟨[.ref a, .ref l], []⟩) (fun _ R s => NoInst l "list" s ∧ R (.ok (.ret .notImplemented)) s) :=
  .of_wp fun prog w A R s h => by obtain ⟨hp, g, d, tk, os⟩ := s; obtain ⟨hl, h⟩ := h; have hl' := @hl prog w; wp_walk using hl'; exact ⟨_, rfl, h⟩
theorem dl_tuple_lt (a l : Addr) : Meets (Builtin.«tuple.__lt__» ⟨[.ref a, .ref l], []⟩) (fun _ R s => NoInst l "tuple" s ∧ R (.ok (.ret .notImplemented)) s) :=
  .of_wp fun prog w A R s h => by obtain ⟨hp, g, d, tk, os⟩ := s; obtain ⟨hl, h⟩ := h; have hl' := @hl prog w; wp_walk using hl'; exact ⟨_, rfl, h⟩
theorem dl_dict_lt (a l : Addr) (o : Obj) (es : Array DictEntry) (ep : Nat) (_ : o.data = .dict es ep) : Meets (Builtin.«dict.__lt__» ⟨[.ref a, .ref l], []⟩) (fun _ R s => s.heap.get? a = some o ∧ NoInst l "dict" s ∧ R (.ok (.ret .notImplemented)) s) :=
  .of_wp fun prog w A R s h => by obtain ⟨hp, g, d, tk, os⟩ := s; obtain ⟨ha, hl, h⟩ := h; have hl' := @hl prog w; wp_walk using hl', wpAny_loadPart' ha, wpAny_load ha; exact ⟨_, rfl, h⟩
theorem dl_none_le (l : Addr) : Gives (Builtin.«NoneType.__le__» ⟨[.none, .ref l], []⟩) (.val (Value.notImplemented)) :=
  .of_wp fun M A E s Q h => by obtain ⟨hp, g, d, tk, os⟩ := s; wp_walk; exact ⟨_, rfl, h⟩
theorem dl_int_le (b : Int) (u : Tok) (l C dx : Addr) : Meets (Builtin.«int.__le__» ⟨[.int b u, .ref l], []⟩) (fun _ R s => s.heap.get? l = some (PySem.W.instObj C dx) ∧ R (.ok (.ret .notImplemented)) s) :=
  .of_wp fun prog w A R s h => by obtain ⟨hp, g, d, tk, os⟩ := s; obtain ⟨hl, h⟩ := h; wp_walk using wpAny_loadPart' hl, wpAny_load hl; exact ⟨_, rfl, h⟩
theorem dl_bool_le (b : Bool) (l C dx : Addr) : Meets (Builtin.«int.__le__» ⟨[.bool b, .ref l], []⟩) (fun _ R s => s.heap.get? l = some (PySem.W.instObj C dx) ∧ R (.ok (.ret .notImplemented)) s) :=
  .of_wp fun prog w A R s h => by obtain ⟨hp, g, d, tk, os⟩ := s; obtain ⟨hl, h⟩ := h; wp_walk using wpAny_loadPart' hl, wpAny_load hl; exact ⟨_, rfl, h⟩
theorem dl_str_le (b : Str) (u : Tok) (l C dx : Addr) : Meets (Builtin.«str.__le__» ⟨[.str b u, .ref l], []⟩) (fun _ R s => s.heap.get? l = some (PySem.W.instObj C dx) ∧ R (.ok (.ret .notImplemented)) s) :=
  .of_wp fun prog w A R s h => by obtain ⟨hp, g, d, tk, os⟩ := s; obtain ⟨hl, h⟩ := h; wp_walk using wpAny_loadPart' hl, wpAny_load hl; exact ⟨_, rfl, h⟩
theorem dl_list_le (a l : Addr) : Meets (Builtin.«list.__le__» ⟨[.ref a, .ref l], []⟩) (fun _ R s => NoInst l "list" s ∧ R (.ok (.ret .notImplemented)) s) :=
  .of_wp fun prog w A R s h => by obtain ⟨hp, g, d, tk, os⟩ := s; obtain ⟨hl, h⟩ := h; have hl' := @hl prog w; wp_walk using hl'; exact ⟨_, rfl, h⟩
theorem dl_tuple_le (a l : Addr) : Meets (Builtin.«tuple.__le__» ⟨[.ref a, .ref l], []⟩) (fun _ R s => NoInst l "tuple" s ∧ R (.ok (.ret .notImplemented)) s) :=
  .of_wp fun prog w A R s h => by obtain ⟨hp, g, d, tk, os⟩ := s; obtain ⟨hl, h⟩ := h; have hl' := @hl prog w; wp_walk using hl'; exact ⟨_, rfl, h⟩
theorem dl_dict_le (a l : Addr) (o : Obj) (es : Array DictEntry) (ep : Nat) (_ : o.data = .dict es ep) : Meets (Builtin.«dict.__le__» ⟨[.ref a, .ref l], []⟩) (fun _ R s => s.heap.get? a = some o ∧ NoInst l "dict" s ∧ R (.ok (.ret .notImplemented)) s) :=
  .of_wp fun prog w A R s h => by obtain ⟨hp, g, d, tk, os⟩ := s; obtain ⟨ha, hl, h⟩ := h; have hl' := @hl prog w; wp_walk using hl', wpAny_loadPart' ha, wpAny_load ha; exact ⟨_, rfl, h⟩
theorem dl_none_gt (l : Addr) : Gives (Builtin.«NoneType.__gt__» ⟨[.none, .ref l], []⟩) (.val (Value.notImplemented)) :=
  .of_wp fun M A E s Q h => by obtain ⟨hp, g, d, tk, os⟩ := s; wp_walk; exact ⟨_, rfl, h⟩
theorem dl_int_gt (b : Int) (u : Tok) (l C dx : Addr) : Meets (Builtin.«int.__gt__» ⟨[.int b u, .ref l], []⟩) (fun _ R s => s.heap.get? l = some (PySem.W.instObj C dx) ∧ R (.ok (.ret .notImplemented)) s) :=
  .of_wp fun prog w A R s h => by obtain ⟨hp, g, d, tk, os⟩ := s; obtain ⟨hl, h⟩ := h; wp_walk using wpAny_loadPart' hl, wpAny_load hl; exact ⟨_, rfl, h⟩
theorem dl_bool_gt (b : Bool) (l C dx : Addr) : Meets (Builtin.«int.__gt__» ⟨[.bool b, .ref l], []⟩) (fun _ R s => s.heap.get? l = some (PySem.W.instObj C dx) ∧ R (.ok (.ret .notImplemented)) s) :=
  .of_wp fun prog w A R s h => by obtain ⟨hp, g, d, tk, os⟩ := s; obtain ⟨hl, h⟩ := h; wp_walk using wpAny_loadPart' hl, wpAny_load hl; exact ⟨_, rfl, h⟩
theorem dl_str_gt (b : Str) (u : Tok) (l C dx : Addr) : Meets (Builtin.«str.__gt__» ⟨[.str b u, .ref l], []⟩) (fun _ R s => s.heap.get? l = some (PySem.W.instObj C dx) ∧ R (.ok (.ret .notImplemented)) s) :=
  .of_wp fun prog w A R s h => by obtain ⟨hp, g, d, tk, os⟩ := s; obtain ⟨hl, h⟩ := h; wp_walk using wpAny_loadPart' hl, wpAny_load hl; exact ⟨_, rfl, h⟩
theorem dl_list_gt (a l : Addr) : Meets (Builtin.«list.__gt__» ⟨[.ref a, .ref l], []⟩) (fun _ R s => NoInst l "list" s ∧ R (.ok (.ret .notImplemented)) s) :=
  .of_wp fun prog w A R s h => by obtain ⟨hp, g, d, tk, os⟩ := s; obtain ⟨hl, h⟩ := h; have hl' := @hl prog w; wp_walk using hl'; exact ⟨_, rfl, h⟩
theorem dl_tuple_gt (a l : Addr) : Meets (Builtin.«tuple.__gt__» ⟨[.ref a, .ref l], []⟩) (fun _ R s => NoInst l "tuple" s ∧ R (.ok (.ret .notImplemented)) s) :=
  .of_wp fun prog w A R s h => by obtain ⟨hp, g, d, tk, os⟩ := s; obtain ⟨hl, h⟩ := h; have hl' := @hl prog w; wp_walk using hl'; exact ⟨_, rfl, h⟩
theorem dl_dict_gt (a l : Addr) (o : Obj) (es : Array DictEntry) (ep : Nat) (_ : o.data = .dict es ep) : Meets (Builtin.«dict.__gt__» ⟨[.ref a, .ref l], []⟩) (fun _ R s => s.heap.get? a = some o ∧ NoInst l "dict" s ∧ R (.ok (.ret .notImplemented)) s) :=
  .of_wp fun prog w A R s h => by obtain ⟨hp, g, d, tk, os⟩ := s; obtain ⟨ha, hl, h⟩ := h; have hl' := @hl prog w; wp_walk using hl', wpAny_loadPart' ha, wpAny_load ha; exact ⟨_, rfl, h⟩
theorem dl_none_ge (l : Addr) : Gives (Builtin.«NoneType.__ge__» ⟨[.none, .ref l], []⟩) (.val (Value.notImplemented)) :=
  .of_wp fun M A E s Q h => by obtain ⟨hp, g, d, tk, os⟩ := s; wp_walk; exact ⟨_, rfl, h⟩
theorem dl_int_ge (b : Int) (u : Tok) (l C dx : Addr) : Meets (Builtin.«int.__ge__» ⟨[.int b u, .ref l], []⟩) (fun _ R s => s.heap.get? l = some (PySem.W.instObj C dx) ∧ R (.ok (.ret .notImplemented)) s) :=
  .of_wp fun prog w A R s h => by obtain ⟨hp, g, d, tk, os⟩ := s; obtain ⟨hl, h⟩ := h; wp_walk using wpAny_loadPart' hl, wpAny_load hl; exact ⟨_, rfl, h⟩
theorem dl_bool_ge (b : Bool) (l C dx : Addr) : Meets (Builtin.«int.__ge__» ⟨[.bool b, .ref l], []⟩) (fun _ R s => s.heap.get? l = some (PySem.W.instObj C dx) ∧ R (.ok (.ret .notImplemented)) s) :=
  .of_wp fun prog w A R s h => by obtain ⟨hp, g, d, tk, os⟩ := s; obtain ⟨hl, h⟩ := h; wp_walk using wpAny_loadPart' hl, wpAny_load hl; exact ⟨_, rfl, h⟩
theorem dl_str_ge (b : Str) (u : Tok) (l C dx : Addr) : Meets (Builtin.«str.__ge__» ⟨[.str b u, .ref l], []⟩) (fun _ R s => s.heap.get? l = some (PySem.W.instObj C dx) ∧ R (.ok (.ret .notImplemented)) s) :=
  .of_wp fun prog w A R s h => by obtain ⟨hp, g, d, tk, os⟩ := s; obtain ⟨hl, h⟩ := h; wp_walk using wpAny_loadPart' hl, wpAny_load hl; exact ⟨_, rfl, h⟩
theorem dl_list_ge (a l : Addr) : Meets (Builtin.«list.__ge__» ⟨[.ref a, .ref l], []⟩) (fun _ R s => NoInst l "list" s ∧ R (.ok (.ret .notImplemented)) s) :=
  .of_wp fun prog w A R s h => by obtain ⟨hp, g, d, tk, os⟩ := s; obtain ⟨hl, h⟩ := h; have hl' := @hl prog w; wp_walk using hl'; exact ⟨_, rfl, h⟩
theorem dl_tuple_ge (a l : Addr) : Meets (Builtin.«tuple.__ge__» ⟨[.ref a, .ref l], []⟩) (fun _ R s => NoInst l "tuple" s ∧ R (.ok (.ret .notImplemented)) s) :=
  .of_wp fun prog w A R s h => by obtain ⟨hp, g, d, tk, os⟩ := s; obtain ⟨hl, h⟩ := h; have hl' := @hl prog w; wp_walk using hl'; exact ⟨_, rfl, h⟩
theorem dl_dict_ge (a l : Addr) (o : Obj) (es : Array DictEntry) (ep : Nat) (_ : o.data = .dict es ep) : Meets (Builtin.«dict.__ge__» ⟨[.ref a, .ref l], []⟩) (fun _ R s => s.heap.get? a = some o ∧ NoInst l "dict" s ∧ R (.ok (.ret .notImplemented)) s) :=
  .of_wp fun prog w A R s h => by obtain ⟨hp, g, d, tk, os⟩ := s; obtain ⟨ha, hl, h⟩ := h; have hl' := @hl prog w; wp_walk using hl', wpAny_loadPart' ha, wpAny_load ha; exact ⟨_, rfl, h⟩
theorem dl_none_eq (l : Addr) : Gives (Builtin.«NoneType.__eq__» ⟨[.none, .ref l], []⟩) (.val (Value.notImplemented)) :=
  .of_wp fun M A E s Q h => by obtain ⟨hp, g, d, tk, os⟩ := s; wp_walk; exact ⟨_, rfl, h⟩
theorem dl_int_eq (b : Int) (u : Tok) (l C dx : Addr) : Meets (Builtin.«int.__eq__» ⟨[.int b u, .ref l], []⟩) (fun _ R s => s.heap.get? l = some (PySem.W.instObj C dx) ∧ R (.ok (.ret .notImplemented)) s) :=
  .of_wp fun prog w A R s h => by obtain ⟨hp, g, d, tk, os⟩ := s; obtain ⟨hl, h⟩ := h; wp_walk using wpAny_loadPart' hl, wpAny_load hl; exact ⟨_, rfl, h⟩
theorem dl_bool_eq (b : Bool) (l C dx : Addr) : Meets (Builtin.«int.__eq__» ⟨[.bool b, .ref l], []⟩) (fun _ R s => s.heap.get? l = some (PySem.W.instObj C dx) ∧ R (.ok (.ret .notImplemented)) s) :=
  .of_wp fun prog w A R s h => by obtain ⟨hp, g, d, tk, os⟩ := s; obtain ⟨hl, h⟩ := h; wp_walk using wpAny_loadPart' hl, wpAny_load hl; exact ⟨_, rfl, h⟩
theorem dl_str_eq (b : Str) (u : Tok) (l C dx : Addr) : Meets (Builtin.«str.__eq__» ⟨[.str b u, .ref l], []⟩) (fun _ R s => s.heap.get? l = some (PySem.W.instObj C dx) ∧ R (.ok (.ret .notImplemented)) s) :=
  .of_wp fun prog w A R s h => by obtain ⟨hp, g, d, tk, os⟩ := s; obtain ⟨hl, h⟩ := h; wp_walk using wpAny_loadPart' hl, wpAny_load hl; exact ⟨_, rfl, h⟩
theorem dl_list_eq (a l : Addr) : Meets (Builtin.«list.__eq__» ⟨[.ref a, .ref l], []⟩) (fun _ R s => NoInst l "list" s ∧ R (.ok (.ret .notImplemented)) s) :=
  .of_wp fun prog w A R s h => by obtain ⟨hp, g, d, tk, os⟩ := s; obtain ⟨hl, h⟩ := h; have hl' := @hl prog w; wp_walk using hl'; exact ⟨_, rfl, h⟩
theorem dl_tuple_eq (a l : Addr) : Meets (Builtin.«tuple.__eq__» ⟨[.ref a, .ref l], []⟩) (fun _ R s => NoInst l "tuple" s ∧ R (.ok (.ret .notImplemented)) s) :=
  .of_wp fun prog w A R s h => by obtain ⟨hp, g, d, tk, os⟩ := s; obtain ⟨hl, h⟩ := h; have hl' := @hl prog w; wp_walk using hl'; exact ⟨_, rfl, h⟩
theorem dl_dict_eq (a l : Addr) (o : Obj) (es : Array DictEntry) (ep : Nat) (_ : o.data = .dict es ep) : Meets (Builtin.«dict.__eq__» ⟨[.ref a, .ref l], []⟩) (fun _ R s => s.heap.get? a = some o ∧ NoInst l "dict" s ∧ R (.ok (.ret .notImplemented)) s) :=
  .of_wp fun prog w A R s h => by obtain ⟨hp, g, d, tk, os⟩ := s; obtain ⟨ha, hl, h⟩ := h; have hl' := @hl prog w; wp_walk using hl', wpAny_loadPart' ha, wpAny_load ha; exact ⟨_, rfl, h⟩
theorem dl_none_ne (l : Addr) : Gives (Builtin.«NoneType.__ne__» ⟨[.none, .ref l], []⟩) (.val (Value.notImplemented)) :=
  .of_wp fun M A E s Q h => by obtain ⟨hp, g, d, tk, os⟩ := s; wp_walk; exact ⟨_, rfl, h⟩
theorem dl_int_ne (b : Int) (u : Tok) (l C dx : Addr) : Meets (Builtin.«int.__ne__» ⟨[.int b u, .ref l], []⟩) (fun _ R s => s.heap.get? l = some (PySem.W.instObj C dx) ∧ R (.ok (.ret .notImplemented)) s) :=
  .of_wp fun prog w A R s h => by obtain ⟨hp, g, d, tk, os⟩ := s; obtain ⟨hl, h⟩ := h; wp_walk using wpAny_loadPart' hl, wpAny_load hl; exact ⟨_, rfl, h⟩
theorem dl_bool_ne (b : Bool) (l C dx : Addr) : Meets (Builtin.«int.__ne__» ⟨[.bool b, .ref l], []⟩) (fun _ R s => s.heap.get? l = some (PySem.W.instObj C dx) ∧ R (.ok (.ret .notImplemented)) s) :=
  .of_wp fun prog w A R s h => by obtain ⟨hp, g, d, tk, os⟩ := s; obtain ⟨hl, h⟩ := h; wp_walk using wpAny_loadPart' hl, wpAny_load hl; exact ⟨_, rfl, h⟩
theorem dl_str_ne (b : Str) (u : Tok) (l C dx : Addr) : Meets (Builtin.«str.__ne__» ⟨[.str b u, .ref l], []⟩) (fun _ R s => s.heap.get? l = some (PySem.W.instObj C dx) ∧ R (.ok (.ret .notImplemented)) s) :=
  .of_wp fun prog w A R s h => by obtain ⟨hp, g, d, tk, os⟩ := s; obtain ⟨hl, h⟩ := h; wp_walk using wpAny_loadPart' hl, wpAny_load hl; exact ⟨_, rfl, h⟩
theorem dl_list_ne (a l : Addr) : Meets (Builtin.«list.__ne__» ⟨[.ref a, .ref l], []⟩) (fun _ R s => NoInst l "list" s ∧ R (.ok (.ret .notImplemented)) s) :=
  .of_wp fun prog w A R s h => by obtain ⟨hp, g, d, tk, os⟩ := s; obtain ⟨hl, h⟩ := h; have hl' := @hl prog w; wp_walk using hl'; exact ⟨_, rfl, h⟩
theorem dl_tuple_ne (a l : Addr) : Meets (Builtin.«tuple.__ne__» ⟨[.ref a, .ref l], []⟩) (fun _ R s => NoInst l "tuple" s ∧ R (.ok (.ret .notImplemented)) s) :=
  .of_wp fun prog w A R s h => by obtain ⟨hp, g, d, tk, os⟩ := s; obtain ⟨hl, h⟩ := h; have hl' := @hl prog w; wp_walk using hl'; exact ⟨_, rfl, h⟩
theorem dl_dict_ne (a l : Addr) (o : Obj) (es : Array DictEntry) (ep : Nat) (_ : o.data = .dict es ep) : Meets (Builtin.«dict.__ne__» ⟨[.ref a, .ref l], []⟩) (fun _ R s => s.heap.get? a = some o ∧ NoInst l "dict" s ∧ R (.ok (.ret .notImplemented)) s) :=
  .of_wp fun prog w A R s h => by obtain ⟨hp, g, d, tk, os⟩ := s; obtain ⟨ha, hl, h⟩ := h; have hl' := @hl prog w; wp_walk using hl', wpAny_loadPart' ha, wpAny_load ha; exact ⟨_, rfl, h⟩
theorem dict_obj {X : Cx} {pins : List (Addr × Obj)} {σ : L2.St} {H : Hp} {s : Shared} {a : Addr} {kvs : List (Key × V)} (I : Inv X pins σ H s) (e : H a = some (.dK kvs)) : ∃ (o : Obj) (es : Array DictEntry) (ep : Nat), s.heap.get? a = some o ∧ o.data = .dict es ep ∧ s.TypeIs (.ref a) "dict" := by
  obtain ⟨_, _, vs, _, hd⟩ := (show ObjOk X.prog X.w H s.heap a (.dK kvs) from I.hok a _ e)
  obtain ⟨o, es, ep, ho, hx, hdd, _⟩ := hd
  exact ⟨o, es, ep, ho, hdd, ⟨o, ho, hx.1⟩⟩
/-- the left operand's own method declines -/
def Decl (s : Shared) (u b : Value) (n : String) (nm : Str) : Prop := ∃ id, Slot n nm id ∧ s.TypeIs u n ∧ ∀ (prog : Program) (w : World) (A : Around) (Q : Value → Shared → Prop) (E : Value → Shared → Prop), Q .notImplemented s → wpAny (model prog w) A (call (.builtin id) [u, b]) Q E s
theorem decl_lt {X : Cx} {pins : List (Addr × Obj)} {σ : L2.St} {H : Hp} {s : Shared} {v : V} {u : Value} {n : String} {l C dx : Addr} (I : Inv X pins σ H s) (o : OddV H v n) (r : RelV v u) (hl : s.heap.get? l = some (PySem.W.instObj C dx)) (hn : NoInst l n s) :
    Decl s u (.ref l) n (cmpInfo .Lt).2.1 := by
  cases o with
  | non =>
    cases (show u = Value.none from r)
    exact ⟨_, F.slot_NoneType_lt, rfl, fun prog w A Q E q => call_gives F.slot_NoneType_lt rfl F.entry_NoneType_lt (F.args_NoneType_lt_2 _ _) (dl_none_lt l) q⟩
  | int i =>
    obtain ⟨t, q⟩ := (show ∃ t, u = Value.int i t from r)
    cases q
    exact ⟨_, F.slot_int_lt, typeIs_int s i t, fun prog w A Q E q => call_meets F.slot_int_lt (typeIs_int s i t) F.entry_int_lt (F.args_int_lt_2 _ _) (dl_int_lt i t l C dx) ⟨hl, q⟩⟩
  | bl b =>
    cases (show u = Value.bool b from r)
    exact ⟨_, F.slot_bool_lt, rfl, fun prog w A Q E q => call_meets F.slot_bool_lt rfl F.entry_int_lt (F.args_int_lt_2 _ _) (dl_bool_lt b l C dx) ⟨hl, q⟩⟩
  | str x =>
    obtain ⟨t, q⟩ := (show ∃ t, u = Value.str x t from r)
    cases q
    exact ⟨_, F.slot_str_lt, typeIs_str s x t, fun prog w A Q E q => call_meets F.slot_str_lt (typeIs_str s x t) F.entry_str_lt (F.args_str_lt_2 _ _) (dl_str_lt x t l C dx) ⟨hl, q⟩⟩
  | @lst a xs e =>
    cases (show u = Value.ref a from r)
    obtain ⟨its, rv, p, hz⟩ := I.list (.of (K := X.K) e)
    have ht : s.TypeIs (.ref a) "list" := let ⟨o, _, h1, h2, _⟩ := p; ⟨o, h1, h2⟩
    exact ⟨_, F.slot_list_lt, ht, fun prog w A Q E q => call_meets F.slot_list_lt ht F.entry_list_lt (F.args_list_lt_2 _ _) (dl_list_lt a l) ⟨hn, q⟩⟩
  | @tup a xs e =>
    cases (show u = Value.ref a from r)
    obtain ⟨its, rv, p, hz⟩ := I.tuple (.of (K := X.K) e)
    have ht : s.TypeIs (.ref a) "tuple" := p.typeIs
    exact ⟨_, F.slot_tuple_lt, ht, fun prog w A Q E q => call_meets F.slot_tuple_lt ht F.entry_tuple_lt (F.args_tuple_lt_2 _ _) (dl_tuple_lt a l) ⟨hn, q⟩⟩
  | @dK a kvs e =>
    cases (show u = Value.ref a from r)
    obtain ⟨o, es, ep, ho, hd, ht⟩ := dict_obj I e
    exact ⟨_, F.slot_dict_lt, ht, fun prog w A Q E q => call_meets F.slot_dict_lt ht F.entry_dict_lt (F.args_dict_lt_2 _ _) (dl_dict_lt a l o es ep hd) ⟨ho, hn, q⟩⟩
theorem decl_le {X : Cx} {pins : List (Addr × Obj)} {σ : L2.St} {H : Hp} {s : Shared} {v : V} {u : Value} {n : String} {l C dx : Addr} (I : Inv X pins σ H s) (o : OddV H v n) (r : RelV v u) (hl : s.heap.get? l = some (PySem.W.instObj C dx)) (hn : NoInst l n s) :
    Decl s u (.ref l) n (cmpInfo .LtE).2.1 := by
  cases o with
  | non =>
    cases (show u = Value.none from r)
    exact ⟨_, F.slot_NoneType_le, rfl, fun prog w A Q E q => call_gives F.slot_NoneType_le rfl F.entry_NoneType_le (F.args_NoneType_le_2 _ _) (dl_none_le l) q⟩
  | int i =>
    obtain ⟨t, q⟩ := (show ∃ t, u = Value.int i t from r)
    cases q
    exact ⟨_, F.slot_int_le, typeIs_int s i t, fun prog w A Q E q => call_meets F.slot_int_le (typeIs_int s i t) F.entry_int_le (F.args_int_le_2 _ _) (dl_int_le i t l C dx) ⟨hl, q⟩⟩
  | bl b =>
    cases (show u = Value.bool b from r)
    exact ⟨_, F.slot_bool_le, rfl, fun prog w A Q E q => call_meets F.slot_bool_le rfl F.entry_int_le (F.args_int_le_2 _ _) (dl_bool_le b l C dx) ⟨hl, q⟩⟩
  | str x =>
    obtain ⟨t, q⟩ := (show ∃ t, u = Value.str x t from r)
    cases q
    exact ⟨_, F.slot_str_le, typeIs_str s x t, fun prog w A Q E q => call_meets F.slot_str_le (typeIs_str s x t) F.entry_str_le (F.args_str_le_2 _ _) (dl_str_le x t l C dx) ⟨hl, q⟩⟩
  | @lst a xs e =>
    cases (show u = Value.ref a from r)
    obtain ⟨its, rv, p, hz⟩ := I.list (.of (K := X.K) e)
    have ht : s.TypeIs (.ref a) "list" := let ⟨o, _, h1, h2, _⟩ := p; ⟨o, h1, h2⟩
    exact ⟨_, F.slot_list_le, ht, fun prog w A Q E q => call_meets F.slot_list_le ht F.entry_list_le (F.args_list_le_2 _ _) (dl_list_le a l) ⟨hn, q⟩⟩
  | @tup a xs e =>
    cases (show u = Value.ref a from r)
    obtain ⟨its, rv, p, hz⟩ := I.tuple (.of (K := X.K) e)
    have ht : s.TypeIs (.ref a) "tuple" := p.typeIs
    exact ⟨_, F.slot_tuple_le, ht, fun prog w A Q E q => call_meets F.slot_tuple_le ht F.entry_tuple_le (F.args_tuple_le_2 _ _) (dl_tuple_le a l) ⟨hn, q⟩⟩
  | @dK a kvs e =>
    cases (show u = Value.ref a from r)
    obtain ⟨o, es, ep, ho, hd, ht⟩ := dict_obj I e
    exact ⟨_, F.slot_dict_le, ht, fun prog w A Q E q => call_meets F.slot_dict_le ht F.entry_dict_le (F.args_dict_le_2 _ _) (dl_dict_le a l o es ep hd) ⟨ho, hn, q⟩⟩
theorem decl_gt {X : Cx} {pins : List (Addr × Obj)} {σ : L2.St} {H : Hp} {s : Shared} {v : V} {u : Value} {n : String} {l C dx : Addr} (I : Inv X pins σ H s) (o : OddV H v n) (r : RelV v u) (hl : s.heap.get? l = some (PySem.W.instObj C dx)) (hn : NoInst l n s) :
    Decl s u (.ref l) n (cmpInfo .Gt).2.1 := by
  cases o with
  | non =>
    cases (show u = Value.none from r)
    exact ⟨_, F.slot_NoneType_gt, rfl, fun prog w A Q E q => call_gives F.slot_NoneType_gt rfl F.entry_NoneType_gt (F.args_NoneType_gt_2 _ _) (dl_none_gt l) q⟩
  | int i =>
    obtain ⟨t, q⟩ := (show ∃ t, u = Value.int i t from r)
    cases q
    exact ⟨_, F.slot_int_gt, typeIs_int s i t, fun prog w A Q E q => call_meets F.slot_int_gt (typeIs_int s i t) F.entry_int_gt (F.args_int_gt_2 _ _) (dl_int_gt i t l C dx) ⟨hl, q⟩⟩
  | bl b =>
    cases (show u = Value.bool b from r)
    exact ⟨_, F.slot_bool_gt, rfl, fun prog w A Q E q => call_meets F.slot_bool_gt rfl F.entry_int_gt (F.args_int_gt_2 _ _) (dl_bool_gt b l C dx) ⟨hl, q⟩⟩
  | str x =>
    obtain ⟨t, q⟩ := (show ∃ t, u = Value.str x t from r)
    cases q
    exact ⟨_, F.slot_str_gt, typeIs_str s x t, fun prog w A Q E q => call_meets F.slot_str_gt (typeIs_str s x t) F.entry_str_gt (F.args_str_gt_2 _ _) (dl_str_gt x t l C dx) ⟨hl, q⟩⟩
  | @lst a xs e =>
    cases (show u = Value.ref a from r)
    obtain ⟨its, rv, p, hz⟩ := I.list (.of (K := X.K) e)
    have ht : s.TypeIs (.ref a) "list" := let ⟨o, _, h1, h2, _⟩ := p; ⟨o, h1, h2⟩
    exact ⟨_, F.slot_list_gt, ht, fun prog w A Q E q => call_meets F.slot_list_gt ht F.entry_list_gt (F.args_list_gt_2 _ _) (dl_list_gt a l) ⟨hn, q⟩⟩
  | @tup a xs e =>
    cases (show u = Value.ref a from r)
    obtain ⟨its, rv, p, hz⟩ := I.tuple (.of (K := X.K) e)
    have ht : s.TypeIs (.ref a) "tuple" := p.typeIs
    exact ⟨_, F.slot_tuple_gt, ht, fun prog w A Q E q => call_meets F.slot_tuple_gt ht F.entry_tuple_gt (F.args_tuple_gt_2 _ _) (dl_tuple_gt a l) ⟨hn, q⟩⟩
  | @dK a kvs e =>
    cases (show u = Value.ref a from r)
    obtain ⟨o, es, ep, ho, hd, ht⟩ := dict_obj I e
    exact ⟨_, F.slot_dict_gt, ht, fun prog w A Q E q => call_meets F.slot_dict_gt ht F.entry_dict_gt (F.args_dict_gt_2 _ _) (dl_dict_gt a l o es ep hd) ⟨ho, hn, q⟩⟩
theorem decl_ge {X : Cx} {pins : List (Addr × Obj)} {σ : L2.St} {H : Hp} {s : Shared} {v : V} {u : Value} {n : String} {l C dx : Addr} (I : Inv X pins σ H s) (o : OddV H v n) (r : RelV v u) (hl : s.heap.get? l = some (PySem.W.instObj C dx)) (hn : NoInst l n s) :
    Decl s u (.ref l) n (cmpInfo .GtE).2.1 := by
  cases o with
  | non =>
    cases (show u = Value.none from r)
    exact ⟨_, F.slot_NoneType_ge, rfl, fun prog w A Q E q => call_gives F.slot_NoneType_ge rfl F.entry_NoneType_ge (F.args_NoneType_ge_2 _ _) (dl_none_ge l) q⟩
  | int i =>
    obtain ⟨t, q⟩ := (show ∃ t, u = Value.int i t from r)
    cases q
    exact ⟨_, F.slot_int_ge, typeIs_int s i t, fun prog w A Q E q => call_meets F.slot_int_ge (typeIs_int s i t) F.entry_int_ge (F.args_int_ge_2 _ _) (dl_int_ge i t l C dx) ⟨hl, q⟩⟩
  | bl b =>
    cases (show u = Value.bool b from r)
    exact ⟨_, F.slot_bool_ge, rfl, fun prog w A Q E q => call_meets F.slot_bool_ge rfl F.entry_int_ge (F.args_int_ge_2 _ _) (dl_bool_ge b l C dx) ⟨hl, q⟩⟩
  | str x =>
    obtain ⟨t, q⟩ := (show ∃ t, u = Value.str x t from r)
    cases q
    exact ⟨_, F.slot_str_ge, typeIs_str s x t, fun prog w A Q E q => call_meets F.slot_str_ge (typeIs_str s x t) F.entry_str_ge (F.args_str_ge_2 _ _) (dl_str_ge x t l C dx) ⟨hl, q⟩⟩
  | @lst a xs e =>
    cases (show u = Value.ref a from r)
    obtain ⟨its, rv, p, hz⟩ := I.list (.of (K := X.K) e)
    have ht : s.TypeIs (.ref a) "list" := let ⟨o, _, h1, h2, _⟩ := p; ⟨o, h1, h2⟩
    exact ⟨_, F.slot_list_ge, ht, fun prog w A Q E q => call_meets F.slot_list_ge ht F.entry_list_ge (F.args_list_ge_2 _ _) (dl_list_ge a l) ⟨hn, q⟩⟩
  | @tup a xs e =>
    cases (show u = Value.ref a from r)
    obtain ⟨its, rv, p, hz⟩ := I.tuple (.of (K := X.K) e)
    have ht : s.TypeIs (.ref a) "tuple" := p.typeIs
    exact ⟨_, F.slot_tuple_ge, ht, fun prog w A Q E q => call_meets F.slot_tuple_ge ht F.entry_tuple_ge (F.args_tuple_ge_2 _ _) (dl_tuple_ge a l) ⟨hn, q⟩⟩
  | @dK a kvs e =>
    cases (show u = Value.ref a from r)
    obtain ⟨o, es, ep, ho, hd, ht⟩ := dict_obj I e
    exact ⟨_, F.slot_dict_ge, ht, fun prog w A Q E q => call_meets F.slot_dict_ge ht F.entry_dict_ge (F.args_dict_ge_2 _ _) (dl_dict_ge a l o es ep hd) ⟨ho, hn, q⟩⟩
theorem decl_eq {X : Cx} {pins : List (Addr × Obj)} {σ : L2.St} {H : Hp} {s : Shared} {v : V} {u : Value} {n : String} {l C dx : Addr} (I : Inv X pins σ H s) (o : OddV H v n) (r : RelV v u) (hl : s.heap.get? l = some (PySem.W.instObj C dx)) (hn : NoInst l n s) :
    Decl s u (.ref l) n (cmpInfo .Eq).2.1 := by
  cases o with
  | non =>
    cases (show u = Value.none from r)
    exact ⟨_, F.slot_NoneType_eq, rfl, fun prog w A Q E q => call_gives F.slot_NoneType_eq rfl F.entry_NoneType_eq (F.args_NoneType_eq_2 _ _) (dl_none_eq l) q⟩
  | int i =>
    obtain ⟨t, q⟩ := (show ∃ t, u = Value.int i t from r)
    cases q
    exact ⟨_, F.slot_int_eq, typeIs_int s i t, fun prog w A Q E q => call_meets F.slot_int_eq (typeIs_int s i t) F.entry_int_eq (F.args_int_eq_2 _ _) (dl_int_eq i t l C dx) ⟨hl, q⟩⟩
  | bl b =>
    cases (show u = Value.bool b from r)
    exact ⟨_, F.slot_bool_eq, rfl, fun prog w A Q E q => call_meets F.slot_bool_eq rfl F.entry_int_eq (F.args_int_eq_2 _ _) (dl_bool_eq b l C dx) ⟨hl, q⟩⟩
  | str x =>
    obtain ⟨t, q⟩ := (show ∃ t, u = Value.str x t from r)
    cases q
    exact ⟨_, F.slot_str_eq, typeIs_str s x t, fun prog w A Q E q => call_meets F.slot_str_eq (typeIs_str s x t) F.entry_str_eq (F.args_str_eq_2 _ _) (dl_str_eq x t l C dx) ⟨hl, q⟩⟩
  | @lst a xs e =>
    cases (show u = Value.ref a from r)
    obtain ⟨its, rv, p, hz⟩ := I.list (.of (K := X.K) e)
    have ht : s.TypeIs (.ref a) "list" := let ⟨o, _, h1, h2, _⟩ := p; ⟨o, h1, h2⟩
    exact ⟨_, F.slot_list_eq, ht, fun prog w A Q E q => call_meets F.slot_list_eq ht F.entry_list_eq (F.args_list_eq_2 _ _) (dl_list_eq a l) ⟨hn, q⟩⟩
  | @tup a xs e =>
    cases (show u = Value.ref a from r)
    obtain ⟨its, rv, p, hz⟩ := I.tuple (.of (K := X.K) e)
    have ht : s.TypeIs (.ref a) "tuple" := p.typeIs
    exact ⟨_, F.slot_tuple_eq, ht, fun prog w A Q E q => call_meets F.slot_tuple_eq ht F.entry_tuple_eq (F.args_tuple_eq_2 _ _) (dl_tuple_eq a l) ⟨hn, q⟩⟩
  | @dK a kvs e =>
    cases (show u = Value.ref a from r)
    obtain ⟨o, es, ep, ho, hd, ht⟩ := dict_obj I e
    exact ⟨_, F.slot_dict_eq, ht, fun prog w A Q E q => call_meets F.slot_dict_eq ht F.entry_dict_eq (F.args_dict_eq_2 _ _) (dl_dict_eq a l o es ep hd) ⟨ho, hn, q⟩⟩
theorem decl_ne {X : Cx} {pins : List (Addr × Obj)} {σ : L2.St} {H : Hp} {s : Shared} {v : V} {u : Value} {n : String} {l C dx : Addr} (I : Inv X pins σ H s) (o : OddV H v n) (r : RelV v u) (hl : s.heap.get? l = some (PySem.W.instObj C dx)) (hn : NoInst l n s) :
    Decl s u (.ref l) n (cmpInfo .NotEq).2.1 := by
  cases o with
  | non =>
    cases (show u = Value.none from r)
    exact ⟨_, F.slot_NoneType_ne, rfl, fun prog w A Q E q => call_gives F.slot_NoneType_ne rfl F.entry_NoneType_ne (F.args_NoneType_ne_2 _ _) (dl_none_ne l) q⟩
  | int i =>
    obtain ⟨t, q⟩ := (show ∃ t, u = Value.int i t from r)
    cases q
    exact ⟨_, F.slot_int_ne, typeIs_int s i t, fun prog w A Q E q => call_meets F.slot_int_ne (typeIs_int s i t) F.entry_int_ne (F.args_int_ne_2 _ _) (dl_int_ne i t l C dx) ⟨hl, q⟩⟩
  | bl b =>
    cases (show u = Value.bool b from r)
    exact ⟨_, F.slot_bool_ne, rfl, fun prog w A Q E q => call_meets F.slot_bool_ne rfl F.entry_int_ne (F.args_int_ne_2 _ _) (dl_bool_ne b l C dx) ⟨hl, q⟩⟩
  | str x =>
    obtain ⟨t, q⟩ := (show ∃ t, u = Value.str x t from r)
    cases q
    exact ⟨_, F.slot_str_ne, typeIs_str s x t, fun prog w A Q E q => call_meets F.slot_str_ne (typeIs_str s x t) F.entry_str_ne (F.args_str_ne_2 _ _) (dl_str_ne x t l C dx) ⟨hl, q⟩⟩
  | @lst a xs e =>
    cases (show u = Value.ref a from r)
    obtain ⟨its, rv, p, hz⟩ := I.list (.of (K := X.K) e)
    have ht : s.TypeIs (.ref a) "list" := let ⟨o, _, h1, h2, _⟩ := p; ⟨o, h1, h2⟩
    exact ⟨_, F.slot_list_ne, ht, fun prog w A Q E q => call_meets F.slot_list_ne ht F.entry_list_ne (F.args_list_ne_2 _ _) (dl_list_ne a l) ⟨hn, q⟩⟩
  | @tup a xs e =>
    cases (show u = Value.ref a from r)
    obtain ⟨its, rv, p, hz⟩ := I.tuple (.of (K := X.K) e)
    have ht : s.TypeIs (.ref a) "tuple" := p.typeIs
    exact ⟨_, F.slot_tuple_ne, ht, fun prog w A Q E q => call_meets F.slot_tuple_ne ht F.entry_tuple_ne (F.args_tuple_ne_2 _ _) (dl_tuple_ne a l) ⟨hn, q⟩⟩
  | @dK a kvs e =>
    cases (show u = Value.ref a from r)
    obtain ⟨o, es, ep, ho, hd, ht⟩ := dict_obj I e
    exact ⟨_, F.slot_dict_ne, ht, fun prog w A Q E q => call_meets F.slot_dict_ne ht F.entry_dict_ne (F.args_dict_ne_2 _ _) (dl_dict_ne a l o es ep hd) ⟨ho, hn, q⟩⟩
section
variable {prog : Program} {w : World} {A : Around} {E : Value → Shared → Prop} {s : Shared} {K : PySem.W.Frag} {x C f L : Addr} {ox : Obj} {od : Option Obj} {b : Value} {h0 : Heap} {m : Str → Option Value}
theorem cmp_R {op : CmpOp} {n : String} {Q : Value → Shared → Prop} (hu : A.units < cLine) (FF : PyProof.Rows.Fr h0 L s.heap m) (X0 : K.In h0) (I : PySem.W.InstAt s.heap x ox C od) (d : Decl s b (.ref x) n (cmpInfo op).2.1)
    (hn : PySem.W.mroIn K C (.type n) = some false) (hs : PySem.W.findIn K (.ref C) (cmpInfo op).2.2 = some (some (.ref f))) (hf : PySem.W.isFn K (.ref f) = true)
    (h : wpAny (model prog w) A (call (.ref f) [.ref x, b]) (PySem.W.CmpBack Q) E s) : wpAny (model prog w) A (richCompare op b (.ref x)) Q E s := by
  have X := X0.keeps FF.keep
  obtain ⟨id, slot, hT, dec⟩ := d
  have one : wpAny (model prog w) A (tryCompare (.ref x) (cmpInfo op).2.2 b) (fun r s' => ∃ v, r = some v ∧ Q v s') E s := by
    unfold tryCompare
    refine wpAny_bind (PySem.W.ifBound_K X I hs hf (wpAny_mono h (fun v s' hv => ?_) fun _ _ e => e))
    cases v <;> first | exact hv.elim | exact wpAny_pure ⟨_, rfl, hv⟩
  rcases hi : cmpInfo op with ⟨sym, f1, r1⟩
  rw [hi] at slot one
  unfold richCompare
  simp only [hi, hT.oneThing_none]
  try with_reducible refine wpAny_holding ?_
  refine wpAny_bind (wpAny_cRoomFor hu ?_)
  refine wpAny_bind (wpAny_typeOf hT (wpAny_bind (I.type.here ?_)))
  have ne : (Value.type n != Value.ref C) = true := rfl
  simp only [ne, if_true]
  refine wpAny_bind ((PySem.W.looks_mroIn X hn).here ?_)
  simp only [Bool.false_eq_true, if_false, Bool.not_false, if_true]
  refine wpAny_bind (m := tryCompare b _ (.ref x)) (wpAny_tryCompare_declines hT slot (dec prog w A _ E ⟨rfl, ?_⟩))
  refine wpAny_bind (m := tryCompare (.ref x) _ b) (wpAny_mono one (fun r s' z => ?_) fun _ _ e => e)
  obtain ⟨v, rfl, hq⟩ := z
  exact wpAny_pure hq
end
end CT
namespace CT
open PySem PySem.Spec PyProof.Rows L2
open He (ga ma fAd)

/-! ### the laws' pen, its cells by name -/
def Pn (H : Hp) (p c : Addr) (n : Nat) : Prop := ∃ (ns : List Int) (b g : Int), H p = some (.lst [.ref c, .int b, .int g]) ∧ H c = some (.lst (ns.map V.int)) ∧ ns.length ≤ 63 ∧ 0 ≤ b ∧ b ≤ n ∧ c ≠ p
def spPn (K : PySem.W.Frag) : Sp := fun vs H Q _ => ∃ (a : Addr) (ns : List Int), vs = [.ref a] ∧ SqL K H a (ns.map V.int) ∧ ∀ p c H', Pn H' p c 0 → Same H H' → H p = none → H c = none → Q (.ref p) H'
def spDr : Sp := fun vs H Q _ => ∃ (p c : Addr) (m : Int) (n : Nat), vs = [.ref p, .int m] ∧ 0 < m ∧ m < 1000000000000000000000000000000000000000000000000000000000000 ∧ Pn H p c n ∧ n < 1000000 ∧
  ∀ k H', 0 ≤ k → k < m → Pn H' p c (n + 1) → Kp p H H' → Q (.int k) H'
def spPk (K : PySem.W.Frag) : Sp := fun vs H Q _ => ∃ (p c a : Addr) (xs : List V) (n : Nat), vs = [.ref p, .ref a] ∧ (SqL K H a xs ∨ SqT K H a xs) ∧ xs ≠ [] ∧ xs.length ≤ 1000000 ∧ a ≠ p ∧ Pn H p c n ∧ n < 1000000 ∧
  ∀ v H', v ∈ xs → Pn H' p c (n + 1) → Kp p H H' → Q v H'

/-! ### chains of heaps, from the last one back -/
section
variable {K : PySem.W.Frag} {H H0 H1 H2 H' : Hp} {p q a c l : Addr} {n m : Nat} {o : HO}
theorem Pn.lst (h : Pn H p c n) : ∃ xs, H p = some (.lst xs) := by
  obtain ⟨_, _, _, hp, _⟩ := h
  exact ⟨_, hp⟩
theorem Pn.mono (h : Pn H p c n) (l : n ≤ m) : Pn H p c m := by
  obtain ⟨ns, b, g, h1, h2, h3, h4, h5, h6⟩ := h
  exact ⟨ns, b, g, h1, h2, h3, h4, by omega, h6⟩
theorem pn_sm (s : Same H H') (h : Pn H p c n) : Pn H' p c n := by
  obtain ⟨ns, b, g, h1, h2, h3, h4, h5, h6⟩ := h
  exact ⟨ns, b, g, s _ _ h1, s _ _ h2, h3, h4, h5, h6⟩
theorem pn_nw (e : H q = none) (h : Pn H p c n) : Pn (upd H q o) p c n := pn_sm (Same.new e) h
theorem pn_kp (k : Kp l H H') (h : Pn H p c n) (lp : l ≠ p) (lc : l ≠ c) : Pn H' p c n := by
  obtain ⟨ns, b, g, h1, h2, h3, h4, h5, h6⟩ := h
  exact ⟨ns, b, g, k _ _ h1 (Ne.symm lp), k _ _ h2 (Ne.symm lc), h3, h4, h5, h6⟩
theorem pn_xt (e : LamX.ExtN H H') (h : Pn H p c n) : Pn H' p c n := by
  obtain ⟨ns, b, g, h1, h2, h3, h4, h5, h6⟩ := h
  exact ⟨ns, b, g, e _ _ h1 (fun _ z => by cases z), e _ _ h2 (fun _ z => by cases z), h3, h4, h5, h6⟩
theorem kp_sm (s : Same H1 H2) (k : Kp p H H1) : Kp p H H2 := k.trans (CT.Same.kp s)
theorem kp_kp (s : Kp p H1 H2) (k : Kp p H H1) : Kp p H H2 := k.trans s
theorem kp_nw (e : H1 q = none) (k : Kp p H H1) : Kp p H (upd H1 q o) := k.trans (Kp.new e)
theorem kp_ot (s : Kp l H1 H2) (k : Kp p H H1) (e : H l = none) : Kp p H H2 := fun b o h nb => s b o (k b o h nb) fun z => by rw [z, e] at h; cases h
theorem sm_sm (s : Same H1 H2) (k : Same H H1) : Same H H2 := k.trans s
theorem sm_nw (e : H1 q = none) (k : Same H H1) : Same H (upd H1 q o) := k.trans (Same.new e)
theorem sm_ot (s : Kp l H1 H2) (k : Same H H1) (e : H l = none) : Same H H2 := fun b o h => s b o (k b o h) fun z => by rw [z, e] at h; cases h
theorem xt_sm (s : Same H1 H2) (k : LamX.ExtN H H1) : LamX.ExtN H H2 := k.trans (LamX.ExtN.of s)
theorem xt_xt (s : LamX.ExtN H1 H2) (k : LamX.ExtN H H1) : LamX.ExtN H H2 := k.trans s
theorem xt_ot (s : Kp l H1 H2) (k : LamX.ExtN H H1) (e : H l = none) : LamX.ExtN H H2 := fun b o h ht => s b o (k b o h ht) fun z => by rw [z, e] at h; cases h
/-- all but what stands at p, and the tables of code objects -/
def Kx (p : Addr) (H H' : Hp) : Prop := ∀ b o, H b = some o → b ≠ p → (∀ ps, o ≠ .tbl ps) → H' b = some o
theorem Kx.refl (p : Addr) (H : Hp) : Kx p H H := fun _ _ h _ _ => h
theorem kx_sm (s : Same H1 H2) (k : Kx p H H1) : Kx p H H2 := fun b o h nb ht => s b o (k b o h nb ht)
theorem kx_kp (s : Kp p H1 H2) (k : Kx p H H1) : Kx p H H2 := fun b o h nb ht => s b o (k b o h nb ht) nb
theorem kx_kx (s : Kx p H1 H2) (k : Kx p H H1) : Kx p H H2 := fun b o h nb ht => s b o (k b o h nb ht) nb ht
theorem kx_xt (s : LamX.ExtN H1 H2) (k : Kx p H H1) : Kx p H H2 := fun b o h nb ht => s b o (k b o h nb ht) ht
/-- nothing stands there, or a table -/
def NoT (H : Hp) (a : Addr) : Prop := ∀ o, H a = some o → ∃ ps, o = .tbl ps
theorem kx_ot (s : Kp l H1 H2) (k : Kx p H H1) (e : NoT H l) : Kx p H H2 := fun b o h nb ht => s b o (k b o h nb ht) fun z => by
  obtain ⟨ps, q⟩ := e o (z ▸ h)
  exact ht ps q
theorem xt_ot' (s : Kp l H1 H2) (k : LamX.ExtN H H1) (e : NoT H l) : LamX.ExtN H H2 := fun b o h ht => s b o (k b o h ht) fun z => by
  obtain ⟨ps, q⟩ := e o (z ▸ h)
  exact ht ps q
theorem nt_no (e : H a = none) : NoT H a := fun o q => by rw [e] at q; cases q
theorem nt_sm (s : Same H H') (e : NoT H' a) : NoT H a := fun o q => e o (s _ _ q)
theorem nt_xt (s : LamX.ExtN H H') (e : NoT H' a) : NoT H a := fun o q => by
  by_cases z : ∃ ps, o = .tbl ps
  · exact z
  · exact e o (s _ _ q fun ps w => z ⟨ps, w⟩)
theorem nt_pn (k : Kp p H H') (h : Pn H' p c n) (e : NoT H' a) : NoT H a := fun o q => by
  by_cases z : a = p
  · obtain ⟨ns, b, g, hp, _⟩ := h
    obtain ⟨ps, w⟩ := e _ (z ▸ hp)
    cases w
  · exact e o (k _ _ q z)
theorem nt_kx (k : Kx p H H') (h : Pn H' p c n) (e : NoT H' a) : NoT H a := fun o q => by
  by_cases z : a = p
  · obtain ⟨ns, b, g, hp, _⟩ := h
    obtain ⟨ps, w⟩ := e _ (z ▸ hp)
    cases w
  · by_cases y : ∃ ps, o = .tbl ps
    · exact y
    · exact e o (k _ _ q z fun ps w => y ⟨ps, w⟩)
theorem nt_kp {xs : List V} (k : Kp l H H') (h : H' l = some (.lst xs)) (e : NoT H' a) : NoT H a := fun o q => by
  by_cases z : a = l
  · obtain ⟨ps, w⟩ := e _ (z ▸ h)
    cases w
  · exact e o (k _ _ q z)
theorem kx_at (s : Kx p H H') (n : a ≠ p) (h : H a = some o) (t : ∀ ps, o ≠ .tbl ps) : H' a = some o := s a o h n t
theorem xt_at (s : LamX.ExtN H H') (h : H a = some o) (t : ∀ ps, o ≠ .tbl ps) : H' a = some o := s a o h t
theorem pn_ne_new (e : H a = none) (h : Pn H p c n) : a ≠ p := fun z => by
  obtain ⟨xs, hp⟩ := h.lst
  rw [z, hp] at e
  cases e
theorem pn_ne_newc (e : H a = none) (h : Pn H p c n) : a ≠ c := fun z => by
  obtain ⟨_, _, _, _, hc, _⟩ := h
  rw [z, hc] at e
  cases e
theorem pn_ne_o (e : H a = some o) (d : ∀ xs, o ≠ .lst xs) (h : Pn H p c n) : a ≠ p := fun z => by
  obtain ⟨xs, hp⟩ := h.lst
  rw [z, hp] at e
  cases e
  exact d _ rfl
theorem pn_ne_lst {xs : List V} (e : H a = some (.lst xs)) (d : ∀ c b g, xs ≠ [.ref c, .int b, .int g]) (h : Pn H p c n) : a ≠ p := fun z => by
  obtain ⟨_, b, g, hp, _⟩ := h
  rw [z, hp] at e
  cases e
  exact d c b g rfl
theorem ne_old (e : H l = none) (h : H a = some o) : a ≠ l := fun z => by rw [z, e] at h; cases h
theorem kp_none (k : Kp p H H') (h : ∃ xs, H p = some (.lst xs)) (hp : ∃ xs, H' p = some (.lst xs)) (e : H' a = none) : H a = none := by
  cases q : H a with
  | none => rfl
  | some o =>
    by_cases z : a = p
    · obtain ⟨xs, hp⟩ := hp
      rw [z, hp] at e
      cases e
    · rw [k a o q z] at e
      cases e
theorem no_pn (k : Kp p H H') (h : Pn H' p c n) (e : H' a = none) : H a = none := by
  cases q : H a with
  | none => rfl
  | some o =>
    by_cases z : a = p
    · obtain ⟨xs, hp⟩ := h.lst
      rw [z, hp] at e
      cases e
    · rw [k a o q z] at e
      cases e
theorem no_kp {xs : List V} (k : Kp l H H') (h : H' l = some (.lst xs)) (e : H' a = none) : H a = none := by
  cases q : H a with
  | none => rfl
  | some o =>
    by_cases z : a = l
    · rw [z, h] at e
      cases e
    · rw [k a o q z] at e
      cases e
theorem no_sm (s : Same H H') (e : H' a = none) : H a = none := by
  cases q : H a with
  | none => rfl
  | some o => rw [s a o q] at e; cases e
theorem kp_free (k : Kp p H H') (h : Pn H' p c n) (e : H' a = none) : H a = none := no_pn k h e
theorem draw_gm {Q : VK} {E : XK} {m : Int} (hP : Pn H p c n) (hn : n < 1000000) (h0 : 0 < m) (h1 : m < 1000000000000000000000000000000000000000000000000000000000000) (k : ∀ i H', 0 ≤ i → i < m → Pn H' p c (n + 1) → Kp p H H' → Q (.int i) H') :
    spDr ([.ref p, .int m] ++ []) H Q E := ⟨p, c, m, n, rfl, h0, h1, hP, hn, k⟩
theorem pick_gm {Q : VK} {E : XK} {xs : List V} (hP : Pn H p c n) (hn : n < 1000000) (ha : H a = some (.lst xs)) (ap : a ≠ p) (hx : xs ≠ []) (hl : xs.length ≤ 1000000) (k : ∀ v H', v ∈ xs → Pn H' p c (n + 1) → Kp p H H' → Q v H') :
    spPk K ([.ref p, .ref a] ++ []) H Q E := ⟨p, c, a, xs, n, rfl, .inl (SqL.of ha), hx, hl, ap, hP, hn, k⟩
theorem pickt_gm {Q : VK} {E : XK} {xs : List V} (hP : Pn H p c n) (hn : n < 1000000) (ha : H a = some (.tup xs)) (ap : a ≠ p) (hx : xs ≠ []) (hl : xs.length ≤ 1000000) (k : ∀ v H', v ∈ xs → Pn H' p c (n + 1) → Kp p H H' → Q v H') :
    spPk K ([.ref p, .ref a] ++ []) H Q E := ⟨p, c, a, xs, n, rfl, .inr (SqT.of ha), hx, hl, ap, hP, hn, k⟩
theorem tabs_pn {T : List (Addr × Str)} (k : Kp p H H') (h : Pn H p c n) (t : LamX.Tabs T H) : LamX.Tabs T H' := tabs_kp t k h.lst
theorem tabs_ls {T : List (Addr × Str)} {xs : List V} (k : Kp l H H') (h : H l = some (.lst xs)) (t : LamX.Tabs T H) : LamX.Tabs T H' := tabs_kp t k ⟨_, h⟩
theorem tabs_sm {T : List (Addr × Str)} (k : Same H H') (t : LamX.Tabs T H) : LamX.Tabs T H' := tabs_same t k
theorem sq_of {xs : List V} (h : H a = some (.lst xs)) : SqL K H a xs := SqL.of h
/-- a list is put in place -/
theorem put_gm {xs : List V} {R : Hp → Prop} (k : ∀ H', Kp l H H' → H' l = some (.lst xs) → R H') : R (upd H l (.lst xs)) := k _ Kp.put upd_same
end

theorem go_eqI {H : Hp} {Q : VK} {x y : Int} (k : Q (.bl (decide (x = y))) H) : rEq (.int x) (.int y) H Q := by
  refine ⟨rfl, ?_⟩
  have e : decide (V.int x = V.int y) = decide (x = y) := decide_eq_decide.mpr (by simp)
  rw [e]
  exact k
theorem go_neI {H : Hp} {Q : VK} {x y : Int} (k : Q (.bl (!decide (x = y))) H) : rNe (.int x) (.int y) H Q := by
  refine ⟨rfl, ?_⟩
  have e : decide (V.int x = V.int y) = decide (x = y) := decide_eq_decide.mpr (by simp)
  rw [e]
  exact k

section
variable {H : Hp} {Q : VK} {a : Addr}
theorem isN_ref (k : Q (.bl false) H) : rIsN (.ref a) .non H Q := ⟨rfl, k⟩
theorem isN_non (k : Q (.bl true) H) : rIsN .non .non H Q := ⟨rfl, k⟩
theorem isN_int {i : Int} (k : Q (.bl false) H) : rIsN (.int i) .non H Q := ⟨rfl, k⟩
theorem isN_str {x : Str} (k : Q (.bl false) H) : rIsN (.str x) .non H Q := ⟨rfl, k⟩
theorem isN_bl {b : Bool} (k : Q (.bl false) H) : rIsN (.bl b) .non H Q := ⟨rfl, k⟩
theorem notN_ref (k : Q (.bl true) H) : rNotN (.ref a) .non H Q := ⟨rfl, k⟩
theorem notN_non (k : Q (.bl false) H) : rNotN .non .non H Q := ⟨rfl, k⟩
theorem notN_int {i : Int} (k : Q (.bl true) H) : rNotN (.int i) .non H Q := ⟨rfl, k⟩
theorem notN_str {x : Str} (k : Q (.bl true) H) : rNotN (.str x) .non H Q := ⟨rfl, k⟩
theorem notN_bl {b : Bool} (k : Q (.bl true) H) : rNotN (.bl b) .non H Q := ⟨rfl, k⟩
end

section
variable {K : PySem.W.Frag} {H : Hp} {Q : VK} {σ : St} {a l : Addr}
theorem app_gm {xs ys : List V} {y : V} (h : H l = some (.lst xs)) (sz : xs.length ≤ 100000) (e : xs ++ [y] = ys) (k : ∀ H', Kp l H H' → H' l = some (.lst ys) → Q .non H') : rAppend (.ref l) [y] H Q := go_appl h sz e (k _ Kp.put upd_same)
theorem rep_gm {n : Int} {xs ys : List V} (h : H l = some (.lst xs)) (n0 : 0 ≤ n) (n1 : n ≤ 1000) (sz : xs.length ≤ 1000) (e : (List.replicate n.toNat xs).flatten = ys) (k : ∀ p H', H p = none → Same H H' → H' p = some (.lst ys) → Q (.ref p) H') : rRep (.ref l) (.int n) H Q :=
  go_rep h n0 n1 sz e fun p n => k p _ n (Same.new n) upd_same
theorem dnew_gm (k : ∀ p H', H p = none → Same H H' → H' p = some (.dK []) → Q (.ref p) H') : tDNewK σ H Q := go_dnew fun p n => k p _ n (Same.new n) upd_same
theorem sl_gm {lo hi : Option Int} {xs : List V} (h : SqL K H a xs) (k : ∀ p H', H p = none → Same H H' → H' p = some (.lst (cutV xs lo hi)) → Q (.ref p) H') : rSlL K (.ref a) lo hi H Q := newSl h rfl k
theorem lstof_gm {ys : List V} (h : SqL K H a ys ∨ SqT K H a ys) (k : ∀ l H', H l = none → Same H H' → H' l = some (.lst ys) → Q (.ref l) H') : rLstOf K [.ref a] H Q := newLstOf h k
theorem cat_gm {b : Addr} {xs ys zs : List V} (ha : H a = some (.lst xs)) (hb : H b = some (.lst ys)) (e : xs ++ ys = zs) (sz : zs.length ≤ 100000) (k : ∀ l H', H l = none → Same H H' → H' l = some (.lst zs) → Q (.ref l) H') : rCat (.ref a) (.ref b) H Q :=
  newCat ha hb sz e k
end

section
variable {K : PySem.W.Frag} {H H' : Hp} {Q : VK} {v : V} {n : String} {l a b : Addr}
theorem go_eqStrs {ns ms : List Str} (ha : SqL K H a (ns.map V.str)) (hb : SqL K H b (ms.map V.str)) (la : PyData.canLayAll0 (ns.map PyData.str) = true) (lb : PyData.canLayAll0 (ms.map PyData.str) = true) (k : Q (.bl (decide (ns = ms))) H) :
    rEqD K (.ref a) (.ref b) H Q := by
  refine ⟨_, _, .lst ha (dpStrs ns), .lst hb (dpStrs ms), shStrs ns la, shStrs ms lb, ?_⟩
  rw [PyData.eqv, eqvStrs]
  exact k
theorem odd_sm (s : Same H H') (h : OddV H v n) : OddV H' v n := h.same s
theorem odd_xt (s : LamX.ExtN H H') (h : OddV H v n) : OddV H' v n := h.ext s
theorem odd_new {H0 : Hp} (e : H0 l = none) (h : OddV H0 v n) : v ≠ .ref l := by
  rintro rfl
  cases h with
  | lst q => rw [e] at q; cases q
  | tup q => rw [e] at q; cases q
  | dK q => rw [e] at q; cases q
theorem odd_kp (k : Kp l H H') (h : OddV H v n) (d : v ≠ .ref l) : OddV H' v n := by
  cases h with
  | non => exact .non
  | int i => exact .int i
  | bl b => exact .bl b
  | str s => exact .str s
  | lst q => exact .lst (k _ _ q fun z => d (by rw [z]))
  | tup q => exact .tup (k _ _ q fun z => d (by rw [z]))
  | dK q => exact .dK (k _ _ q fun z => d (by rw [z]))
end

/-! ### numbers within bounds -/
theorem mulB {i j B c : Int} (h1 : -B ≤ i) (h2 : i ≤ B) (h3 : 0 ≤ j) (h4 : j ≤ c) : -(B * c) ≤ i * j ∧ i * j ≤ B * c := by
  have hB : 0 ≤ B := by omega
  have a : B * j ≤ B * c := Int.mul_le_mul_of_nonneg_left h4 hB
  have b : i * j ≤ B * j := Int.mul_le_mul_of_nonneg_right h2 h3
  have d : -B * j ≤ i * j := Int.mul_le_mul_of_nonneg_right h1 h3
  rw [Int.neg_mul] at d
  omega
theorem divB {t b B : Int} (h : 0 < b) (h1 : -B ≤ t) (h2 : t ≤ B) : -B ≤ t / b ∧ t / b ≤ B := by
  have hB : 0 ≤ B := by omega
  have a : t / b ≤ B := by
    refine Int.ediv_le_of_le_mul h ?_
    have : B * 1 ≤ B * b := Int.mul_le_mul_of_nonneg_left (by omega) hB
    omega
  have c : -B ≤ t / b := by
    refine (Int.le_ediv_iff_mul_le h).mpr ?_
    have : B * 1 ≤ B * b := Int.mul_le_mul_of_nonneg_left (by omega) hB
    rw [Int.neg_mul]
    omega
  exact ⟨c, a⟩
theorem mem_range {xs : List V} {v : V} (lo hi : Int) (h : v ∈ xs) (c : (xs.all fun v => match v with | .int m => decide (lo ≤ m) && decide (m ≤ hi) | _ => false) = true) : ∃ m, v = .int m ∧ lo ≤ m ∧ m ≤ hi := by
  have z := List.all_eq_true.mp c v h
  cases v with
  | int m =>
    simp only [Bool.and_eq_true, decide_eq_true_eq] at z
    exact ⟨m, rfl, z.1, z.2⟩
  | _ => cases z
end CT
namespace CT
open PySem PySem.Spec PyProof.Rows L2
open He (ga ma fAd)

/-! ### the left operand of a built-in kind, the right one an instance whose class has the turned method -/
section
variable {prog : Program} {w : World} {A : Around} {E : Value → Shared → Prop} {s : Shared} {K : PySem.W.Frag} {x C f L : Addr} {ox : Obj} {od : Option Obj} {b : Value} {h0 : Heap} {m : Str → Option Value}
theorem ne_R {n : String} {Q : Value → Shared → Prop} (hu : A.units + 1 < cLine) (FF : PyProof.Rows.Fr h0 L s.heap m) (X0 : K.In h0) (I : PySem.W.InstAt s.heap x ox C od) (d : Decl s b (.ref x) n (cmpInfo .NotEq).2.1)
    (hn : PySem.W.mroIn K C (.type n) = some false) (hne : PySem.W.findIn K (.ref C) "__ne__" = some (some (.builtin "object.__ne__")))
    (hs : PySem.W.findIn K (.ref C) "__eq__" = some (some (.ref f))) (hf : PySem.W.isFn K (.ref f) = true) (hm : PySem.W.mroIn K C (.type "object") = some true)
    (h : wpAny (model prog w) A.in1 (call (.ref f) [.ref x, b]) (fun v s' => ∃ r, v = .bool r ∧ Q (.bool (!r)) s') E s) : wpAny (model prog w) A (richCompare .NotEq b (.ref x)) Q E s := by
  have X := X0.keeps FF.keep
  have sub : PySem.W.Looks (model prog w) s.heap (isInstance (.ref x) (.type "object")) true := I.type.andThen (PySem.W.looks_mroIn X hm)
  obtain ⟨id, slot, hT, dec⟩ := d
  have one : wpAny (model prog w) A (tryCompare (.ref x) (cmpInfo .NotEq).2.2 b) (fun r s' => ∃ v, r = some v ∧ Q v s') E s := by
    unfold tryCompare
    refine wpAny_bind (ifBuilt_K X I hne F.cmp_object.ne (wpAny_call (codeAny_call_builtin F.cmp_object.ne.plain F.cmpEntry_ne
      (PySem.W.check_slot F.cmpKind_ne F.cmpSplit_ne sub (F.cmpArgs_ne _ _) ?_))))
    unfold Builtin.«object.__ne__»
    refine wpAny_bind (wpAny_of_eq (a := ((Value.ref x : Value), [b])) (by first | rfl | (simp only [slotArgs]; rfl)) ?_)
    dsimp only
    refine wpAny_bind (wpAny_cRoomFor (show A.in1.units < cLine from hu) ?_)
    refine wpAny_bind (PySem.W.ifBound_K X I hs hf (wpAny_mono h (fun v s' hv => ?_) fun _ _ e => e))
    obtain ⟨r, rfl, hq⟩ := hv
    dsimp only
    refine wpAny_bind (wpAny_truthy_bool ?_)
    first
      | exact wpAny_pure ⟨_, rfl, hq⟩
      | exact wpAny_pure (wpAny_pure ⟨_, rfl, hq⟩)
      | (unfold Builtin.ret; exact wpAny_pure ⟨_, rfl, hq⟩)
  rcases hi : cmpInfo .NotEq with ⟨sym, f1, r1⟩
  rw [hi] at slot one
  unfold richCompare
  simp only [hi, hT.oneThing_none]
  try with_reducible refine wpAny_holding ?_
  refine wpAny_bind (wpAny_cRoomFor (Nat.lt_of_succ_lt hu) ?_)
  refine wpAny_bind (wpAny_typeOf hT (wpAny_bind (I.type.here ?_)))
  have ne : (Value.type n != Value.ref C) = true := rfl
  simp only [ne, if_true]
  refine wpAny_bind ((PySem.W.looks_mroIn X hn).here ?_)
  simp only [Bool.false_eq_true, if_false, Bool.not_false, if_true]
  refine wpAny_bind (m := tryCompare b _ (.ref x)) (wpAny_tryCompare_declines hT slot (dec prog w A _ E ⟨rfl, ?_⟩))
  refine wpAny_bind (m := tryCompare (.ref x) _ b) (wpAny_mono one (fun r s' z => ?_) fun _ _ e => e)
  obtain ⟨v, rfl, hq⟩ := z
  exact wpAny_pure hq
end
/-- v op o, o an instance of C, v of a built-in kind -/
def rOwnR (K : PySem.W.Frag) (C : Addr) (sp : Sp) (E : XK) : R2 := fun x y H Q => ∃ a dx fs n, y = .ref a ∧ H a = some (.ins C dx fs) ∧ OddV H x n ∧ PySem.W.mroIn K C (.type n) = some false ∧ sp [y, x] H Q E
def rNeR (K : PySem.W.Frag) (C : Addr) (sp : Sp) (E : XK) : R2 := fun x y H Q => ∃ a dx fs n, y = .ref a ∧ H a = some (.ins C dx fs) ∧ OddV H x n ∧ PySem.W.mroIn K C (.type n) = some false ∧
  sp [y, x] H (fun v H' => ∃ r, v = .bl r ∧ Q (.bl (!r)) H') E
section
variable {X : Cx} {CX : CXT} {j k : Nat} {C : Addr} {sp : Sp} {E : XK}
theorem noInst {pins : List (Addr × Obj)} {σ : L2.St} {H : Hp} {s : Shared} {a dx : Addr} {fs : List (Str × V)} {n : String} (I : Inv X pins σ H s) (ha : H a = some (.ins C dx fs)) (hn : PySem.W.mroIn X.K C (.type n) = some false) : NoInst a n s := by
  intro prog w A Q E q
  obtain ⟨mA, J, _⟩ := ins_get I.hok ha
  obtain ⟨od, J, _⟩ := J.look
  have sub : PySem.W.Looks (model prog w) s.heap (isInstance (.ref a) (.type n)) false := J.type.andThen (PySem.W.looks_mroIn I.kIn hn)
  exact sub.here q
theorem op_ownR {op : CmpOp} (dc : ∀ {pins : List (Addr × Obj)} {σ : L2.St} {H : Hp} {s : Shared} {v : V} {u : Value} {n : String} {l C dx : Addr}, Inv X pins σ H s → OddV H v n → RelV v u → s.heap.get? l = some (PySem.W.instObj C dx) → NoInst l n s → Decl s u (.ref l) n (cmpInfo op).2.1)
    (c : Op X.prog X.w X.K X.mg X.base CX k C (cmpInfo op).2.2 sp) (hop : ∀ a b, compareOp op a b = richCompare op a b) (hr : Room j X.A) (hk : k ≤ j) (hx : Passes CX X E) :
    OpR X (compareOp op) (rOwnR X.K C sp E) := by
  obtain ⟨f, fd, ps, F, h1, h2, b⟩ := c
  have hr' := hr.mono hk
  intro pins s σ H x y v u Q I rx ry h
  obtain ⟨a, dx, fs, n, rfl, ha, od, hn, q⟩ := h
  cases (show u = Value.ref a from ry)
  obtain ⟨mA, J, _⟩ := ins_get I.hok ha
  have ni := noInst I ha hn
  have hobj := J.obj
  obtain ⟨od', J', _⟩ := J.look
  obtain ⟨m, hF⟩ := I.fr
  rw [hop]
  refine cmp_R (op := op) hr'.units0 hF I.ok.mod.kin J' (dc I od rx hobj ni) hn h1 h2 ?_
  refine wpAny_mono (run_fn (us := [.ref a, v]) (vs := [.ref a, x]) F hr' b .nil hx I (.cons rfl (.cons rx .nil)) q) (fun w s' z => ?_) fun _ _ x => x
  obtain ⟨z', H', I', rz, qz⟩ := z
  exact cmp_back rz ⟨z', H', I', rz, qz⟩
theorem op_neR (c : Op X.prog X.w X.K X.mg X.base CX k C "__eq__" sp) (hne : PySem.W.findIn X.K (.ref C) "__ne__" = some (some (.builtin "object.__ne__"))) (hm : PySem.W.mroIn X.K C (.type "object") = some true) (hr : Room j X.A) (hk : k + 1 ≤ j) (hx : Passes CX X E) :
    OpR X (compareOp .NotEq) (rNeR X.K C sp E) := by
  obtain ⟨f, fd, ps, F, h1, h2, b⟩ := c
  have hr' := hr.mono hk
  intro pins s σ H x y v u Q I rx ry h
  obtain ⟨a, dx, fs, n, rfl, ha, od, hn, q⟩ := h
  cases (show u = Value.ref a from ry)
  obtain ⟨mA, J, _⟩ := ins_get I.hok ha
  have ni := noInst I ha hn
  have hobj := J.obj
  obtain ⟨od', J', _⟩ := J.look
  obtain ⟨m, hF⟩ := I.fr
  show wpAny (model X.prog X.w) X.A (richCompare .NotEq v (.ref a)) _ _ s
  refine ne_R (by have := hr'.un; omega) hF I.ok.mod.kin J' (decl_ne I od rx hobj ni) hn hne h1 h2 hm ?_
  have r2 : Vals [V.ref a, x] [Value.ref a, v] := .cons rfl (.cons rx .nil)
  have hl := F.len _ _ _ _ q
  refine wpAny_call (codeAny_mono (F.run X.A.in1 X.stack s H ⟨[.ref a, v], []⟩ [.ref a, v] [.ref a, x] _ E hr'.in1 I.env0.in1 (by
    have z := b s [.ref a, v] I.kIn (by simpa using hl)
    simpa using z) r2 q) fun r s' hq => ?_)
  cases r with
  | error e => exact hx pins σ H s e s' I hq
  | ok fl =>
    cases fl with
    | ret w =>
      obtain ⟨z, H', I', rz, k, ez, qz⟩ := I.after hq
      subst ez
      cases (show w = Value.bool k from rz)
      exact ⟨k, rfl, .bl (!k), H', I', rfl, qz⟩
    | next => exact False.elim hq
    | brk => exact False.elim hq
    | cont => exact False.elim hq
theorem op_ownRk {op : CmpOp} {K' : PySem.W.Frag} (hK : X.K = K') (dc : ∀ {pins : List (Addr × Obj)} {σ : L2.St} {H : Hp} {s : Shared} {v : V} {u : Value} {n : String} {l C dx : Addr}, Inv X pins σ H s → OddV H v n → RelV v u → s.heap.get? l = some (PySem.W.instObj C dx) → NoInst l n s → Decl s u (.ref l) n (cmpInfo op).2.1)
    (c : Op X.prog X.w X.K X.mg X.base CX k C (cmpInfo op).2.2 sp) (hop : ∀ a b, compareOp op a b = richCompare op a b) (hr : Room j X.A) (hk : k ≤ j) (hx : Passes CX X E) :
    OpR X (compareOp op) (rOwnR K' C sp E) := by
  subst hK
  exact op_ownR dc c hop hr hk hx
end
section
variable {K : PySem.W.Frag} {H : Hp} {Q : VK} {a C dx : Addr} {fs : List (Str × V)} {sp : Sp} {E : XK} {x : V} {n : String}
theorem go_ownR (h : H a = some (.ins C dx fs)) (o : OddV H x n) (m : PySem.W.mroIn K C (.type n) = some false) (k : sp [.ref a, x] H Q E) : rOwnR K C sp E x (.ref a) H Q := ⟨a, dx, fs, n, rfl, h, o, m, k⟩
theorem go_neR (h : H a = some (.ins C dx fs)) (o : OddV H x n) (m : PySem.W.mroIn K C (.type n) = some false) (k : sp [.ref a, x] H (fun v H' => ∃ r, v = .bl r ∧ Q (.bl (!r)) H') E) : rNeR K C sp E x (.ref a) H Q := ⟨a, dx, fs, n, rfl, h, o, m, k⟩
end

end CT
namespace CT
open PySem PySem.Spec PyProof.Rows L2
open He (ga ma fAd)

/-! ### a class's own unary operators, abs, bool, str, len, in -/
section
variable {prog : Program} {w : World} {A : Around} {E : Value → Shared → Prop} {s : Shared} {K : PySem.W.Frag} {x C f L : Addr} {ox : Obj} {od : Option Obj} {h0 : Heap} {m : Str → Option Value}
theorem abs_K {Q : Value → Shared → Prop} (FF : PyProof.Rows.Fr h0 L s.heap m) (X0 : K.In h0) (I : PySem.W.InstAt s.heap x ox C od) (hs : PySem.W.findIn K (.ref C) "__abs__" = some (some (.ref f))) (hf : PySem.W.isFn K (.ref f) = true)
    (h : wpAny (model prog w) A.in1 (call (.ref f) [.ref x]) Q E s) : wpAny (model prog w) A (call (.builtin "abs") [.ref x]) Q E s := by
  refine Calls.call_function_entry kind_abs plain_abs entry_abs (args_abs _) ?_
  unfold Builtin.«abs»
  refine wpAny_bind (m := oneArg "abs" _) (wpAny_pure ?_)
  refine wpAny_bind (m := callSpecial? (.ref x) (Str.ofString "__abs__")) (PySem.W.special_fn (X0.keeps FF.keep) I hs (beq_iff_eq.mp hf) (wpAny_mono h (fun r s' hr => ?_) fun _ _ y => y))
  dsimp only
  exact wpAny_pure ⟨_, rfl, hr⟩
theorem bool_K {Q : Value → Shared → Prop} (FF : PyProof.Rows.Fr h0 L s.heap m) (X0 : K.In h0) (I : PySem.W.InstAt s.heap x ox C od) (hs : PySem.W.findIn K (.ref C) "__bool__" = some (some (.ref f))) (hf : PySem.W.isFn K (.ref f) = true)
    (h : wpAny (model prog w) A.in1.in1 (call (.ref f) [.ref x]) (PySem.W.BoolBack fun b s' => Q (.bool b) s') E s) : wpAny (model prog w) A (call (.type "bool") [.ref x]) Q E s := by
  refine callType_codes (T := "bool") (Bi := Builtin.«object.__init__») (Q₁ := fun r s₁ => ∃ b, r = .bool b ∧ Q r s₁) PySem.F.called_bool (PySem.F.typeCall_bool_1 _) PySem.F.entry_object_init ?_ ?_
  · refine codeAny_of_tree ?_
    show wpAny _ A.in1.in1 (do checkBuiltinCall "bool.__new__" ⟨[.type "bool", .ref x], []⟩; again (.builtin "bool.__new__" ⟨[.type "bool", .ref x], []⟩)) _ _ s
    refine wpAny_bind (wpAny_of_eq (PySem.F.newCall_bool_1 _) (wpAny_pure ⟨plainId_quiet (by decide +kernel) _, codeAny_builtin PySem.F.entry_bool_new ?_⟩))
    rw [Around.under_plainId (by decide +kernel) _]
    obtain ⟨hp, g, d, tk, os⟩ := s
    have f1 := PySem.F.conv_sub_bool
    have tr : ∀ {R : Bool → Shared → Prop} {E' : Value → Shared → Prop}, wpAny (model prog w) A.in1.in1 (call (.ref f) [.ref x]) (PySem.W.BoolBack R) E' ⟨hp, g, d, tk, os⟩ → wpAny (model prog w) A.in1.in1 (truthy (.ref x)) R E' ⟨hp, g, d, tk, os⟩ :=
      fun z => PySem.W.truthy_K FF X0 I hs hf z
    repeat (any_goals (first | assumption | (with_reducible refine tr (wpAny_mono h (fun r s' hr => ?_) (fun _ _ y => y))) | wp_step))
    cases r <;> first | exact hr.elim | exact wpAny_pure ⟨_, rfl, hr⟩
  · rintro obj s₁ ⟨b, rfl, hq⟩
    exact ⟨rfl, PySem.F.args_object_init_2 _ _, object_init_meets PySem.F.called_bool.init.lookup PySem.F.called_bool.made (by decide) prog w A.in1 _ s₁ ⟨rfl, rfl, hq⟩⟩
end
/-- f(x) by x's own method -/
def rOwn1 (C : Addr) (sp : Sp) (E : XK) : V → Hp → VK → Prop := fun x H Q => ∃ a dx fs, x = .ref a ∧ H a = some (.ins C dx fs) ∧ sp [.ref a] H Q E
def rOwnA (C : Addr) (sp : Sp) (E : XK) : List V → Hp → VK → Prop := fun xs H Q => ∃ a dx fs, xs = [.ref a] ∧ H a = some (.ins C dx fs) ∧ sp [.ref a] H Q E
def rOwnB (C : Addr) (sp : Sp) (E : XK) : List V → Hp → VK → Prop := fun xs H Q => ∃ a dx fs, xs = [.ref a] ∧ H a = some (.ins C dx fs) ∧ sp [.ref a] H (fun v H' => ∃ b, v = .bl b ∧ Q (.bl b) H') E
def rOwnS (C : Addr) (sp : Sp) (E : XK) : List V → Hp → VK → Prop := fun xs H Q => ∃ a dx fs, xs = [.ref a] ∧ H a = some (.ins C dx fs) ∧ sp [.ref a] H (fun v H' => ∃ z, v = .str z ∧ Q (.str z) H') E
def rOwnN (C : Addr) (sp : Sp) (E : XK) : List V → Hp → VK → Prop := fun xs H Q => ∃ a dx fs, xs = [.ref a] ∧ H a = some (.ins C dx fs) ∧ sp [.ref a] H (fun v H' => ∃ n : Int, v = .int n ∧ 0 ≤ n ∧ n < 2 ^ 63 ∧ Q (.int n) H') E
section
variable {X : Cx} {CX : CXT} {j k : Nat} {C : Addr} {sp : Sp} {E : XK}
/-- a def is called somewhat deeper, its wishes those of the place -/
theorem run_at {A' : Around} {ps : List Str} {f : Addr} {fd : FuncData} {pins : List (Addr × Obj)} {σ : L2.St} {H : Hp} {s : Shared} {Q : VK} {us : List Value} {vs : List V} (F : FnOk X.prog X.w X.K X.mg X.base CX k f fd ps sp) (hb : Binds X.K fd ps []) (hr : Room k A')
    (e0 : Env0 X.prog X.w X.K X.mg X.base A' X.stack s H) (hx : Passes CX X E) (I : Inv X pins σ H s) (r : Vals vs us) (h : sp vs H Q E) : wpAny (model X.prog X.w) A' (call (.ref f) us) (EP X pins σ Q) X.xe s := by
  have hl := F.len _ _ _ _ h
  refine wpAny_call (codeAny_mono (F.run A' X.stack s H ⟨us, []⟩ us vs _ E hr e0 (by
    have z := hb s us I.kIn (by rw [List.append_nil, ← r.length]; exact hl)
    simpa using z) r h) fun r s' hq => ?_)
  cases r with
  | error e => exact hx pins σ H s e s' I hq
  | ok fl =>
    cases fl with
    | ret w => exact I.after hq
    | next => exact False.elim hq
    | brk => exact False.elim hq
    | cont => exact False.elim hq
theorem un_neg (c : Op X.prog X.w X.K X.mg X.base CX k C "__neg__" sp) (hr : Room j X.A) (hk : k ≤ j) (hx : Passes CX X E) : UnR X (unaryOp .USub) (rOwn1 C sp E) := by
  obtain ⟨f, fd, ps, F, h1, h2, b⟩ := c
  intro pins s σ H x v Q I rx h
  obtain ⟨a, dx, fs, rfl, ha, q⟩ := h
  cases (show v = Value.ref a from rx)
  obtain ⟨mA, J, _⟩ := ins_get I.hok ha
  obtain ⟨od, J, _⟩ := J.look
  obtain ⟨m, hF⟩ := I.fr
  exact PySem.W.ksp_neg hF I.ok.mod.kin J h1 h2 (run_at F b (hr.mono hk) I.env0 hx I (us := [.ref a]) (vs := [.ref a]) (.cons rfl .nil) q)
theorem call_absO (c : Op X.prog X.w X.K X.mg X.base CX k C "__abs__" sp) (hr : Room j X.A) (hk : k + 1 ≤ j) (hx : Passes CX X E) : CallR X (.builtin "abs") (rOwnA C sp E) := by
  obtain ⟨f, fd, ps, F, h1, h2, b⟩ := c
  intro pins s σ H xs us Q I rx h
  obtain ⟨a, dx, fs, rfl, ha, q⟩ := h
  obtain ⟨u, rfl, ru⟩ := vals1 rx
  cases (show u = Value.ref a from ru)
  obtain ⟨mA, J, _⟩ := ins_get I.hok ha
  obtain ⟨od, J, _⟩ := J.look
  obtain ⟨m, hF⟩ := I.fr
  exact abs_K hF I.ok.mod.kin J h1 h2 (run_at F b (hr.mono hk).in1 I.env0.in1 hx I (us := [.ref a]) (vs := [.ref a]) (.cons rfl .nil) q)
theorem call_boolO (c : Op X.prog X.w X.K X.mg X.base CX k C "__bool__" sp) (hr : Room j X.A) (hk : k + 2 ≤ j) (hx : Passes CX X E) : CallR X (.type "bool") (rOwnB C sp E) := by
  obtain ⟨f, fd, ps, F, h1, h2, b⟩ := c
  intro pins s σ H xs us Q I rx h
  obtain ⟨a, dx, fs, rfl, ha, q⟩ := h
  obtain ⟨u, rfl, ru⟩ := vals1 rx
  cases (show u = Value.ref a from ru)
  obtain ⟨mA, J, _⟩ := ins_get I.hok ha
  obtain ⟨od, J, _⟩ := J.look
  obtain ⟨m, hF⟩ := I.fr
  refine bool_K hF I.ok.mod.kin J h1 h2 (wpAny_mono (run_at F b (hr.mono hk).in1.in1 I.env0.in1.in1 hx I (us := [.ref a]) (vs := [.ref a]) (.cons rfl .nil) q) (fun w s' z => ?_) fun _ _ y => y)
  obtain ⟨z', H', I', rz, bb, rfl, qz⟩ := z
  cases (show w = Value.bool bb from rz)
  exact ⟨.bl bb, H', I', rfl, qz⟩
theorem call_strO (c : Op X.prog X.w X.K X.mg X.base CX k C "__str__" sp) (hr : Room j X.A) (hk : k + 2 ≤ j) (hx : Passes CX X E) : CallR X (.type "str") (rOwnS C sp E) := by
  obtain ⟨f, fd, ps, F, h1, h2, b⟩ := c
  intro pins s σ H xs us Q I rx h
  obtain ⟨a, dx, fs, rfl, ha, q⟩ := h
  obtain ⟨u, rfl, ru⟩ := vals1 rx
  cases (show u = Value.ref a from ru)
  obtain ⟨mA, J, _⟩ := ins_get I.hok ha
  obtain ⟨od, J, _⟩ := J.look
  have hr2 := (hr.mono hk)
  refine PySem.W.kso_call (by have := hr2.un; show X.A.units + 1 + 1 < cLine; omega) I.kIn J h1 h2 (wpAny_mono (run_at F b hr2.in1.in1 I.env0.in1.in1 hx I (us := [.ref a]) (vs := [.ref a]) (.cons rfl .nil) q) (fun w s' z => ?_) fun _ _ y => y)
  obtain ⟨z', H', I', rz, zz, rfl, qz⟩ := z
  obtain ⟨t, rfl⟩ := (show ∃ t, w = Value.str zz t from rz)
  exact ⟨.str zz, H', I', ⟨_, rfl⟩, qz⟩
theorem call_lenO (c : Op X.prog X.w X.K X.mg X.base CX k C "__len__" sp) (hr : Room j X.A) (hk : k + 1 ≤ j) (hx : Passes CX X E) : CallR X (.builtin "len") (rOwnN C sp E) := by
  obtain ⟨f, fd, ps, F, h1, h2, b⟩ := c
  intro pins s σ H xs us Q I rx h
  obtain ⟨a, dx, fs, rfl, ha, q⟩ := h
  obtain ⟨u, rfl, ru⟩ := vals1 rx
  cases (show u = Value.ref a from ru)
  obtain ⟨mA, J, _⟩ := ins_get I.hok ha
  obtain ⟨od, J, _⟩ := J.look
  obtain ⟨m, hF⟩ := I.fr
  refine PySem.W.len_K hF I.ok.mod.kin J h1 h2 (wpAny_mono (run_at F b (hr.mono hk).in1 I.env0.in1 hx I (us := [.ref a]) (vs := [.ref a]) (.cons rfl .nil) q) (fun w s' z => ?_) fun _ _ y => y)
  obtain ⟨z', H', I', rz, n, rfl, n0, n1, qz⟩ := z
  obtain ⟨t, rfl⟩ := (show ∃ t, w = Value.int n t from rz)
  exact ⟨⟨n0, n1⟩, .int n, H', I'.tok _, ⟨_, rfl⟩, qz⟩
end
section
variable {H : Hp} {Q : VK} {C a dx : Addr} {fs : List (Str × V)} {sp : Sp} {E : XK}
theorem go_own1 (h : H a = some (.ins C dx fs)) (k : sp [.ref a] H Q E) : rOwn1 C sp E (.ref a) H Q := ⟨a, dx, fs, rfl, h, k⟩
theorem go_ownA (h : H a = some (.ins C dx fs)) (k : sp [.ref a] H Q E) : rOwnA C sp E [.ref a] H Q := ⟨a, dx, fs, rfl, h, k⟩
theorem go_ownB (h : H a = some (.ins C dx fs)) (k : sp [.ref a] H (fun v H' => ∃ b, v = .bl b ∧ Q (.bl b) H') E) : rOwnB C sp E [.ref a] H Q := ⟨a, dx, fs, rfl, h, k⟩
theorem go_ownS (h : H a = some (.ins C dx fs)) (k : sp [.ref a] H (fun v H' => ∃ z, v = .str z ∧ Q (.str z) H') E) : rOwnS C sp E [.ref a] H Q := ⟨a, dx, fs, rfl, h, k⟩
theorem go_ownN (h : H a = some (.ins C dx fs)) (k : sp [.ref a] H (fun v H' => ∃ n : Int, v = .int n ∧ 0 ≤ n ∧ n < 2 ^ 63 ∧ Q (.int n) H') E) : rOwnN C sp E [.ref a] H Q := ⟨a, dx, fs, rfl, h, k⟩
end

/-! ### keywords -/
section
variable {K : PySem.W.Frag} {x qual : Str} {params : Arguments} {body : List Stmt} {scope : Scope} {dvs : List V} {kws : List (Str × V)} {f : Addr} {fd : FuncData} {ps : List Str}
theorem _root_.L2.FunD.kbindsP (F : L2.FunD K x qual params body scope [] kws f fd) (n : Nat) (ks : List Str) (g : {α : Type} → List α → List α → List α)
    (rel : ∀ {vs zs : List V} {us ws : List Value}, Vals vs us → Vals zs ws → Vals (g vs zs) (g us ws))
    (args : ∀ (kV doc pm : Value) (an : Option Addr) (cdv ct : Value) (us ws : List Value), us.length = n → ws.length = ks.length →
      bindArgs (PySem.W.fnOf x qual params body scope .none kV doc pm an cdv ct) ⟨us, ks.zip ws⟩ = pure (ps.zip (g us ws))) :
    KBn K fd ps n ks (fun us ws => g us ws) (fun vs zs => g vs zs) where
  to s us ws _ l1 l2 := by
    rcases F.ex with ⟨_, _, dV, _, _, _, _, _, _, _, same, _, _, none' | ⟨some', _⟩, _⟩
    · rw [same, none'.2]
      exact .of_eq (args _ _ _ _ _ _ us ws l1 l2)
    · exact (some' rfl).elim
  rel := rel
end
/-- C(k = v, ..) with its defaults -/
def MkeK (P : Program) (w : World) (K : PySem.W.Frag) (mg : Str → Option Value) (base : Heap) (CX : CXT) (k : Nat) (x : Str) (sp : Sp) (n : Nat) (ks : List Str) (gV : List V → List V → List V) : Prop :=
  ∃ f fd ps g, FnOk P w K mg base CX k f fd ps sp ∧ Mk K (ga K x) f ∧ mg x = some (.ref (ga K x)) ∧ KBn K fd ps (n + 1) ks g gV
def tMkK (C : Addr) (sp : Sp) (n m : Nat) (gV : List V → List V → List V) (E : XK) (t tk : TA) : TE := fun σ H Q => t σ H fun vs H1 => tk σ H1 fun zs H2 => vs.length = n ∧ zs.length = m ∧ ∀ x dx, H2 x = none → H2 dx = none → dx ≠ x →
  sp (gV (.ref x :: vs) zs) (upd (upd H2 dx (.own x)) x (.ins C dx [])) (fun v H3 => v = .non ∧ Q (.ref x) H3) E
section
variable {X : Cx} {CX : CXT} {j k n : Nat} {x : Str} {sp : Sp} {E : XK} {p pos : Pos} {e : Expr} {es : List Expr} {kws : List Keyword} {ks : List Str} {t tk : TA} {gV : List V → List V → List V} {K' : PySem.W.Frag}
theorem pe_mkeK0 (hK : X.K = K') (c : MkeK X.prog X.w X.K X.mg X.base CX k x sp 0 ks gV) (hr : Room j X.A) (hk : k + 1 ≤ j) (hx : Passes CX X E) (hkw : PK X kws tk) (hg : Gl X x := by rfl)
    (hall : (backToKw pos (keywordEach kws X.env)).all (·.1.isSome) = true := by rfl) (hks : (backToKw pos (keywordEach kws X.env)).filterMap (·.1) = ks := by rfl) (hdb : (x == ("__debug__" : Str)) = false := by decide)
    (hpl : ((backTo pos (starEach [] X.env)).any (·.1) || (backToKw pos (keywordEach kws X.env)).any (·.1.isNone)) = false := by rfl) :
    PE X (.Call (.Name x p) [] kws pos) (tMkK (ga K' x) sp 0 ks.length gV E tNil tk) := by
  subst hK
  obtain ⟨f, fd, ps, g, F, M, hm, b⟩ := c
  exact pe_makeK0 M F (hr.mono hk) hg hm b hx hkw hall hks hdb hpl
theorem pe_mkek (hK : X.K = K') (c : Mke X.prog X.w X.K X.mg X.base CX k x sp) (hr : Room j X.A) (hk : k + 1 ≤ j) (hx : Passes CX X E) (ha : PA X (e :: es) t) (hg : Gl X x := by rfl)
    (hdb : (x == ("__debug__" : Str)) = false := by decide) (he : starEach (e :: es) X.env = (false, eval e X.env) :: starEach es X.env := by rfl)
    (hpl : (backTo pos (starEach es X.env)).any (·.1) = false := by rfl) : PE X (.Call (.Name x p) (e :: es) [] pos) (tMake (ga K' x) sp [] E t) := by
  subst hK
  exact pe_mke c hr hk hx ha hg hdb he hpl
theorem pe_mkedk {dvs : List V} (hK : X.K = K') (c : MkeD X.prog X.w X.K X.mg X.base CX k x sp dvs) (hr : Room j X.A) (hk : k + 1 ≤ j) (hx : Passes CX X E) (ha : PA X (e :: es) t) (hg : Gl X x := by rfl)
    (hdb : (x == ("__debug__" : Str)) = false := by decide) (he : starEach (e :: es) X.env = (false, eval e X.env) :: starEach es X.env := by rfl)
    (hpl : (backTo pos (starEach es X.env)).any (·.1) = false := by rfl) : PE X (.Call (.Name x p) (e :: es) [] pos) (tMake (ga K' x) sp dvs E t) := by
  subst hK
  exact pe_mked c hr hk hx ha hg hdb he hpl
end
def rMkK (C : Addr) (sp : Sp) (n m : Nat) (gV : List V → List V → List V) (E : XK) (vs zs : List V) (H2 : Hp) (Q : VK) : Prop := vs.length = n ∧ zs.length = m ∧ ∀ x dx, H2 x = none → H2 dx = none → dx ≠ x →
  sp (gV (.ref x :: vs) zs) (upd (upd H2 dx (.own x)) x (.ins C dx [])) (fun v H3 => v = .non ∧ Q (.ref x) H3) E
theorem go_mkK {C : Addr} {sp : Sp} {n m : Nat} {gV : List V → List V → List V} {E : XK} {t tk : TA} {σ : L2.St} {H : Hp} {Q : VK} (k : t σ H fun vs H1 => tk σ H1 fun zs H2 => rMkK C sp n m gV E vs zs H2 Q) : tMkK C sp n m gV E t tk σ H Q := k
theorem mkK_of {C : Addr} {sp : Sp} {n m : Nat} {gV : List V → List V → List V} {E : XK} {vs zs ws : List V} {H : Hp} {Q : VK} (hn : vs.length = n) (hm : zs.length = m) (e : ∀ x, gV (.ref x :: vs) zs = .ref x :: ws) (k : rMake C sp E ws H Q) : rMkK C sp n m gV E vs zs H Q :=
  ⟨hn, hm, fun x dx nx nd ne => by
    have z := k x dx nx nd ne
    rw [List.append_nil] at z
    rw [e]
    exact z⟩

/-! ### division by numbers of either sign -/
def CDivV (_ j : Int) : Prop := j ≠ 0 ∧ j.natAbs.log2 < 9000
theorem op_fdivV {X : Cx} : OpR X (binaryOp .FloorDiv) (rI CDivV fun i j => .int (i.fdiv j)) := opI fun _ _ _ _ _ _ _ hc q => floordiv_int hc.1 q (.inl (PyProof.noPylong_of_log2 hc.2))
theorem divV {i j : Int} (h0 : j ≠ 0) (h1 : -1000000000000000000000000000000000000000000000000000000000000 < j) (h2 : j < 1000000000000000000000000000000000000000000000000000000000000) : CDivV i j := by
  refine ⟨h0, Nat.lt_of_lt_of_le (log_lt (k := 200) ?_ (by decide)) (by decide)⟩
  have : (2 : Nat) ^ 200 = 1606938044258990275541962092341162602522202993782792835301376 := by decide
  omega

/-! ### texts put together -/
section
variable {σ : L2.St} {H : Hp} {Q : VK}
def rJs (ts : List TE) (acc : Str) (σ : L2.St) (x : V) (H : Hp) (Q : Str → Hp → Prop) : Prop := ∃ y : Str, x = .str y ∧ (acc ++ y).length ≤ sizeLine ∧ tJs ts (acc ++ y) σ H Q
theorem go_jsc {t : TE} {ts : List TE} {acc : Str} {Q : Str → Hp → Prop} (k : t σ H fun x H1 => rJs ts acc σ x H1 Q) : tJs (t :: ts) acc σ H Q := k
theorem go_jsn {acc : Str} {Q : Str → Hp → Prop} (k : Q acc H) : tJs [] acc σ H Q := k
theorem go_jsx {ts : List TE} {acc y : Str} {Q : Str → Hp → Prop} (l : acc.length + y.length ≤ 10000000) (k : tJs ts (acc ++ y) σ H Q) : rJs ts acc σ (.str y) H Q :=
  ⟨y, rfl, by rw [PySem.Str.length_append]; exact Nat.le_trans l (by decide), k⟩
def rFmt (x : V) (H1 : Hp) (Q : VK) : Prop := (∃ y : Str, x = .str y ∧ y.length ≤ sizeLine ∧ Q (.str y) H1) ∨ ∃ i : Int, x = .int i ∧ i.natAbs.log2 < 1920 ∧ Q (.str (toString i)) H1
theorem go_fmt {te : TE} (k : te σ H fun x H1 => rFmt x H1 Q) : tFmt te σ H Q := k
theorem fmt_int {i : Int} (h : i.natAbs.log2 < 1920) (k : Q (.str (toString i)) H) : rFmt (.int i) H Q := .inr ⟨i, rfl, h, k⟩
theorem fmt_str {y : Str} (h : y.length ≤ 10000000) (k : Q (.str y) H) : rFmt (.str y) H Q := .inl ⟨y, rfl, Nat.le_trans h (by decide), k⟩
theorem repr_bl {K : PySem.W.Frag} {b : Bool} (k : Q (.str (PyData.bool b).shown) H) : rRepr K [.bl b] H Q := by
  cases b
  · exact ⟨_, _, rfl, .bl false, by decide +kernel, by decide +kernel, by decide +kernel, by decide +kernel, k⟩
  · exact ⟨_, _, rfl, .bl true, by decide +kernel, by decide +kernel, by decide +kernel, by decide +kernel, k⟩
end
/-! ### an invariant and a number that falls -/
section
variable {tc : TT} {tb : TS} {D : Ends} {σ : L2.St} {H : Hp}
theorem while_go (W : Nat → L2.St → Hp → Prop) (m : Nat) (h0 : W m σ H)
    (hs : ∀ m σ H, W m σ H → tc σ H fun b H1 => if b = true then ∃ N : L2.St → Hp → Prop, (∀ σ' H', N σ' H' → ∃ m', m' < m ∧ W m' σ' H') ∧ tb { D with nx := N, ct := N, bk := D.nx } σ H1 else D.nx σ H1) : tWhile tc tb D σ H := ⟨W, ⟨m, h0⟩, hs⟩
theorem while_step {W : Nat → L2.St → Hp → Prop} {m : Nat} (k : tb { D with nx := fun σ' H' => ∃ m', m' < m ∧ W m' σ' H', ct := fun σ' H' => ∃ m', m' < m ∧ W m' σ' H', bk := D.nx } σ H) :
    ∃ N : L2.St → Hp → Prop, (∀ σ' H', N σ' H' → ∃ m', m' < m ∧ W m' σ' H') ∧ tb { D with nx := N, ct := N, bk := D.nx } σ H := ⟨_, fun _ _ h => h, k⟩
end

section
variable {σ : L2.St} {H : Hp} {Q : VK} {K : PySem.W.Frag}
/-- some are kept -/
theorem lcListIf {j : Nat} {a : Addr} {xs : List V} {vs : List Nat} {tt : TT} {te : TE} (c : V → Bool) (f : V → V) (hn : xs.length ≤ 100000) (ha : SqL K H a xs) (hw : ∀ v, wipe ((wipe σ vs).set j (some v)) vs = wipe σ vs)
    (ht : ∀ (x : V) (H' : Hp) (Q' : Bool → Hp → Prop), x ∈ xs → Same H H' → (∀ H'', Same H' H'' → Q' (c x) H'') → tt ((wipe σ vs).set j (some x)) H' Q')
    (hs : ∀ (x : V) (H' : Hp) (Q' : VK), x ∈ xs → c x = true → Same H H' → (∀ H'', Same H' H'' → Q' (f x) H'') → te ((wipe σ vs).set j (some x)) H' Q')
    (k : ∀ D H', H D = none → Same H H' → H' D = some (.lst ((xs.filter c).map f)) → Q (.ref D) H') : rLc (Itl K a) (gName j) tt te vs σ H Q := by
  intro D nD
  refine lc_list (K := K) (a := a) (xs := xs) (fun i H' => Same H H' ∧ H' D = some (.lst (((xs.take i).filter c).map f))) ⟨Same.new nD, upd_same⟩ (fun i H' _ p => p.1.seq ha) ?_ fun H' ⟨s, d⟩ => k D H' nD s (by rw [List.take_length] at d; exact d)
  rintro i x H' hi ⟨s, d⟩
  refine ⟨hw _, ?_⟩
  have hx := List.mem_of_getElem? hi
  obtain ⟨hlt, ex⟩ := List.getElem?_eq_some_iff.mp hi
  have step : (xs.take (i + 1)).filter c = (xs.take i).filter c ++ (if c x = true then [x] else []) := by
    rw [List.take_add_one, hi, List.filter_append]
    cases e : c x <;> simp [e]
  refine ht x H' _ hx s fun H1 s1 => ?_
  refine go_b (fun e => ?_) fun e => ?_
  · refine hs x H1 _ hx e (s.trans s1) fun H'' s2 => ?_
    refine ⟨_, s2 _ _ (s1 _ _ d), ?_, ?_, ?_⟩
    · rw [List.length_map]
      have q := List.length_filter_le c (xs.take i)
      rw [List.length_take] at q
      exact Nat.lt_of_lt_of_le (Nat.lt_of_lt_of_le (show ((xs.take i).filter c).length < xs.length by omega) hn) (by decide)
    · exact fun b o h => (upd_ne (ne_of_none h nD)).trans (s2 _ _ (s1 _ _ (s _ _ h)))
    · rw [step, if_pos e, List.map_append]
      exact upd_same
  · refine ⟨s.trans s1, ?_⟩
    rw [step, if_neg (by rw [e]; exact Bool.false_ne_true), List.append_nil]
    exact s1 _ _ d
end
theorem go_kS {y : Str} {R : Str → Prop} (k : R y) : ∃ z, V.str y = .str z ∧ R z := ⟨y, rfl, k⟩
end CT
namespace CT
open PySem PySem.Spec PyProof.Rows L2
open He (ga ma fAd)
open AutoSeq1 (wpAny_loadPart')
open MeetsSeq

/-! ### binary operators between an own object and a value of another kind -/
/-- two operands of unlike kinds, as the heap tells them: whether each kind fills the slot -/
structure Pairing (M : Model) (h : Heap) (nm : String) (a b ta tb : Value) (fa fb : Bool) : Prop where
  ka : PySem.W.Looks M h (typeOf a) ta
  kb : PySem.W.Looks M h (typeOf b) tb
  un : (ta == tb) = false
  sa : PySem.W.Looks M h (fillsNumberSlot ta nm) fa
  sb : PySem.W.Looks M h (fillsNumberSlot tb nm) fb
  no : PySem.W.Looks M h (isSubtype tb ta) false
def Gives (Q : Value → Shared → Prop) : Option Value → Shared → Prop := fun r s => ∃ v, r = some v ∧ Q v s
section
variable {M : Model} {A : Around} {E : Value → Shared → Prop} {nm : String} {a b ta tb : Value} {Q : Value → Shared → Prop} {p q : Bool}
/-- the left one is asked, and answers -/
theorem Pairing.fst {s : Shared} {ro : Option Value} (Z : Pairing M s.heap nm a b ta tb true q) (ia : PySem.W.Looks M s.heap (numberSlotInPython ta nm) true) (ib : PySem.W.Looks M s.heap (numberSlotInPython tb nm) false)
    (lr : PySem.W.Looks M s.heap (typeLookup tb (dunderR nm)) ro) (t : wpAny M A (tryMethod a (PySem.dunder nm) b) (Gives Q) E s) : wpAny M A (binaryOp1 nm a b) (Gives Q) E s := by
  obtain ⟨ka, kb, un, sa, sb, no⟩ := Z
  have fin : ∀ {m2 : Option Value → Sem (Option Value)}, (∀ v, m2 (some v) = pure (some v)) → wpAny M A (tryMethod a (PySem.dunder nm) b >>= m2) (Gives Q) E s := fun {m2} e =>
    wpAny_bind (wpAny_mono t (fun r s' z => by obtain ⟨v, rfl, hv⟩ := z; rw [e]; exact wpAny_pure ⟨v, rfl, hv⟩) fun _ _ z => z)
  unfold binaryOp1
  refine wpAny_bind (ka.here (wpAny_bind (kb.here (wpAny_bind (sa.here ?_)))))
  rw [un]
  cases q
  · refine wpAny_bind (sb.here (wpAny_bind (wpAny_pure (a := false) ?_)))
    exact fin fun _ => rfl
  · refine wpAny_bind (sb.here (wpAny_bind (no.here (wpAny_bind (ia.here (wpAny_bind (ib.here (wpAny_bind (lr.here ?_)))))))))
    exact fin fun _ => rfl
/-- the left one is not asked, or declines; the right one answers -/
theorem Pairing.snd {s : Shared} (Z : Pairing M s.heap nm a b ta tb p true) (ia : PySem.W.Looks M s.heap (numberSlotInPython ta nm) false)
    (dl : p = true → ∀ {m2 : Option Value → Sem (Option Value)}, wpAny M A (m2 none) (Gives Q) E s → wpAny M A (tryMethod a (PySem.dunder nm) b >>= m2) (Gives Q) E s)
    (t : wpAny M A (tryMethod b (dunderR nm) a) (Gives Q) E s) : wpAny M A (binaryOp1 nm a b) (Gives Q) E s := by
  obtain ⟨ka, kb, un, sa, sb, no⟩ := Z
  have fin : ∀ {m2 : Option Value → Sem (Option Value)}, (∀ v, m2 (some v) = (do rule "binop.reflected"; pure (some v))) → wpAny M A (tryMethod b (dunderR nm) a >>= m2) (Gives Q) E s := fun {m2} e =>
    wpAny_bind (wpAny_mono t (fun r s' z => by obtain ⟨v, rfl, hv⟩ := z; rw [e]; exact wpAny_bind (wpAny_rule (wpAny_pure ⟨v, rfl, hv⟩))) fun _ _ z => z)
  unfold binaryOp1
  refine wpAny_bind (ka.here (wpAny_bind (kb.here (wpAny_bind (sa.here ?_)))))
  rw [un]
  cases p
  · refine wpAny_bind (sb.here (wpAny_bind (wpAny_pure (a := false) ?_)))
    exact fin fun _ => rfl
  · refine wpAny_bind (sb.here (wpAny_bind (no.here (wpAny_bind (ia.here ?_)))))
    exact dl rfl (fin fun _ => rfl)
end
section
variable {prog : Program} {w : World} {A : Around} {E : Value → Shared → Prop} {s : Shared} {K : PySem.W.Frag} {x C f f0 L : Addr} {ox : Obj} {od : Option Obj} {h0 : Heap} {m : Str → Option Value} {T : String}
theorem bin1_L {nm' : String} {b : Value} {fo ro rc : Option Value} {Q : Value → Shared → Prop} (FF : PyProof.Rows.Fr h0 L s.heap m) (X0 : K.In h0) (I : PySem.W.InstAt s.heap x ox C od) (hb : PySem.W.Looks (model prog w) s.heap (typeOf b) (.type T)) (hc : PySem.W.selfFirst K C = true)
    (hs : PySem.W.findIn K (.ref C) (PySem.dunder nm') = some (some (.ref f))) (hf : PySem.W.isFn K (.ref f) = true) (hr : PySem.W.findIn K (.ref C) (dunderR nm') = some rc) (hp : rc = none ∨ ∃ g : Addr, rc = some (.ref g))
    (h1 : PySem.W.findIn K (.type T) (PySem.dunder nm') = some fo) (h2 : PySem.W.findIn K (.type T) (dunderR nm') = some ro) (hsub : PySem.W.subIn K (.type T) (.ref C) = some false)
    (h : wpAny (model prog w) A (call (.ref f) [.ref x, b]) (PySem.W.CmpBack Q) E s) : wpAny (model prog w) A (binaryOp1 nm' (.ref x) b) (Gives Q) E s := by
  have X := X0.keeps FF.keep
  obtain ⟨_, _, hcd, hm⟩ := PySem.W.ksp_first hc
  exact Pairing.fst ⟨I.type, hb, rfl, PySem.W.fills_K X hcd hm hs, PySem.W.ksp_fillsT X h1 h2, PySem.W.looks_subIn X hsub⟩ (PySem.W.ksp_inPy X hs hr hp) (.of_pure rfl) (PySem.W.looks_findIn X h2) (PySem.W.ksp_try X I hs hf h)
/-- what a pair answers, the operator answers -/
theorem op_pair {op : Operator} {a b : Value} {Q : Value → Shared → Prop} (h : wpAny (model prog w) A (binaryOp1 op.info.2 a b) (Gives Q) E s) : wpAny (model prog w) A (binaryOp op a b) Q E s := by
  unfold binaryOp
  exact wpAny_holding (wpAny_bind (wpAny_mono h (fun r s' z => by obtain ⟨v, rfl, hv⟩ := z; exact wpAny_pure hv) fun _ _ z => z))
theorem bin_L {op : Operator} {b : Value} {fo ro rc : Option Value} {Q : Value → Shared → Prop} (FF : PyProof.Rows.Fr h0 L s.heap m) (X0 : K.In h0) (I : PySem.W.InstAt s.heap x ox C od) (hb : PySem.W.Looks (model prog w) s.heap (typeOf b) (.type T)) (hc : PySem.W.selfFirst K C = true)
    (hs : PySem.W.findIn K (.ref C) (PySem.dunder op.info.2) = some (some (.ref f))) (hf : PySem.W.isFn K (.ref f) = true) (hr : PySem.W.findIn K (.ref C) (dunderR op.info.2) = some rc) (hp : rc = none ∨ ∃ g : Addr, rc = some (.ref g))
    (h1 : PySem.W.findIn K (.type T) (PySem.dunder op.info.2) = some fo) (h2 : PySem.W.findIn K (.type T) (dunderR op.info.2) = some ro) (hsub : PySem.W.subIn K (.type T) (.ref C) = some false)
    (h : wpAny (model prog w) A (call (.ref f) [.ref x, b]) (PySem.W.CmpBack Q) E s) : wpAny (model prog w) A (binaryOp op (.ref x) b) Q E s :=
  op_pair (bin1_L FF X0 I hb hc hs hf hr hp h1 h2 hsub h)
/-- the left operand, of a built-in kind, declines; the right one's turned method -/
theorem bin_R {op : Operator} {b : Value} {fo ro : Option Value} {Q : Value → Shared → Prop} (FF : PyProof.Rows.Fr h0 L s.heap m) (X0 : K.In h0) (I : PySem.W.InstAt s.heap x ox C od) (hb : PySem.W.Looks (model prog w) s.heap (typeOf b) (.type T)) (hc : PySem.W.selfFirst K C = true)
    (hs : PySem.W.findIn K (.ref C) (PySem.dunder op.info.2) = some (some (.ref f0))) (hr : PySem.W.findIn K (.ref C) (dunderR op.info.2) = some (some (.ref f))) (hf : PySem.W.isFn K (.ref f) = true)
    (h1 : PySem.W.findIn K (.type T) (PySem.dunder op.info.2) = some fo) (h2 : PySem.W.findIn K (.type T) (dunderR op.info.2) = some ro) (hsub : PySem.W.mroIn K C (.type T) = some false)
    (dl : ((fo.isSome && !isSeqSlot fo) || (ro.isSome && !isSeqSlot ro)) = true → ∀ (Q' : Option Value → Shared → Prop), Q' none s → wpAny (model prog w) A (tryMethod b (PySem.dunder op.info.2) (.ref x)) Q' E s)
    (h : wpAny (model prog w) A (call (.ref f) [.ref x, b]) (PySem.W.CmpBack Q) E s) : wpAny (model prog w) A (binaryOp op b (.ref x)) Q E s := by
  have X := X0.keeps FF.keep
  obtain ⟨_, _, hcd, hm⟩ := PySem.W.ksp_first hc
  exact op_pair (Pairing.snd ⟨hb, I.type, rfl, PySem.W.ksp_fillsT X h1 h2, PySem.W.fills_K X hcd hm hs, PySem.W.looks_mroIn X hsub⟩ (.of_pure rfl) (fun z {_} q => wpAny_bind (dl z _ q)) (PySem.W.ksp_try X I hr hf h))
end
theorem db_int_add (b : Int) (u : Tok) (l C dx : Addr) : Meets (Builtin.«int.__add__» ⟨[.int b u, .ref l], []⟩) (fun _ R s => s.heap.get? l = some (PySem.W.instObj C dx) ∧ R (.ok (.ret .notImplemented)) s) :=
  .of_wp fun prog w A R s h => by obtain ⟨hp, g, d, tk, os⟩ := s; obtain ⟨hl, h⟩ := h; wp_walk using wpAny_loadPart' hl, wpAny_load hl; exact ⟨_, rfl, h⟩
theorem db_bool_add (b : Bool) (l C dx : Addr) : Meets (Builtin.«int.__add__» ⟨[.bool b, .ref l], []⟩) (fun _ R s => s.heap.get? l = some (PySem.W.instObj C dx) ∧ R (.ok (.ret .notImplemented)) s) :=
  .of_wp fun prog w A R s h => by obtain ⟨hp, g, d, tk, os⟩ := s; obtain ⟨hl, h⟩ := h; wp_walk using wpAny_loadPart' hl, wpAny_load hl; exact ⟨_, rfl, h⟩
theorem db_int_sub (b : Int) (u : Tok) (l C dx : Addr) : Meets (Builtin.«int.__sub__» ⟨[.int b u, .ref l], []⟩) (fun _ R s => s.heap.get? l = some (PySem.W.instObj C dx) ∧ R (.ok (.ret .notImplemented)) s) :=
  .of_wp fun prog w A R s h => by obtain ⟨hp, g, d, tk, os⟩ := s; obtain ⟨hl, h⟩ := h; wp_walk using wpAny_loadPart' hl, wpAny_load hl; exact ⟨_, rfl, h⟩
theorem db_bool_sub (b : Bool) (l C dx : Addr) : Meets (Builtin.«int.__sub__» ⟨[.bool b, .ref l], []⟩) (fun _ R s => s.heap.get? l = some (PySem.W.instObj C dx) ∧ R (.ok (.ret .notImplemented)) s) :=
  .of_wp fun prog w A R s h => by obtain ⟨hp, g, d, tk, os⟩ := s; obtain ⟨hl, h⟩ := h; wp_walk using wpAny_loadPart' hl, wpAny_load hl; exact ⟨_, rfl, h⟩
theorem db_int_mul (b : Int) (u : Tok) (l C dx : Addr) : Meets (Builtin.«int.__mul__» ⟨[.int b u, .ref l], []⟩) (fun _ R s => s.heap.get? l = some (PySem.W.instObj C dx) ∧ R (.ok (.ret .notImplemented)) s) :=
  .of_wp fun prog w A R s h => by obtain ⟨hp, g, d, tk, os⟩ := s; obtain ⟨hl, h⟩ := h; wp_walk using wpAny_loadPart' hl, wpAny_load hl; exact ⟨_, rfl, h⟩
theorem db_bool_mul (b : Bool) (l C dx : Addr) : Meets (Builtin.«int.__mul__» ⟨[.bool b, .ref l], []⟩) (fun _ R s => s.heap.get? l = some (PySem.W.instObj C dx) ∧ R (.ok (.ret .notImplemented)) s) :=
  .of_wp fun prog w A R s h => by obtain ⟨hp, g, d, tk, os⟩ := s; obtain ⟨hl, h⟩ := h; wp_walk using wpAny_loadPart' hl, wpAny_load hl; exact ⟨_, rfl, h⟩
theorem db_int_floordiv (b : Int) (u : Tok) (l C dx : Addr) : Meets (Builtin.«int.__floordiv__» ⟨[.int b u, .ref l], []⟩) (fun _ R s => s.heap.get? l = some (PySem.W.instObj C dx) ∧ R (.ok (.ret .notImplemented)) s) :=
  .of_wp fun prog w A R s h => by obtain ⟨hp, g, d, tk, os⟩ := s; obtain ⟨hl, h⟩ := h; wp_walk using wpAny_loadPart' hl, wpAny_load hl; exact ⟨_, rfl, h⟩
theorem db_bool_floordiv (b : Bool) (l C dx : Addr) : Meets (Builtin.«int.__floordiv__» ⟨[.bool b, .ref l], []⟩) (fun _ R s => s.heap.get? l = some (PySem.W.instObj C dx) ∧ R (.ok (.ret .notImplemented)) s) :=
  .of_wp fun prog w A R s h => by obtain ⟨hp, g, d, tk, os⟩ := s; obtain ⟨hl, h⟩ := h; wp_walk using wpAny_loadPart' hl, wpAny_load hl; exact ⟨_, rfl, h⟩
theorem db_int_mod (b : Int) (u : Tok) (l C dx : Addr) : Meets (Builtin.«int.__mod__» ⟨[.int b u, .ref l], []⟩) (fun _ R s => s.heap.get? l = some (PySem.W.instObj C dx) ∧ R (.ok (.ret .notImplemented)) s) :=
  .of_wp fun prog w A R s h => by obtain ⟨hp, g, d, tk, os⟩ := s; obtain ⟨hl, h⟩ := h; wp_walk using wpAny_loadPart' hl, wpAny_load hl; exact ⟨_, rfl, h⟩
theorem db_bool_mod (b : Bool) (l C dx : Addr) : Meets (Builtin.«int.__mod__» ⟨[.bool b, .ref l], []⟩) (fun _ R s => s.heap.get? l = some (PySem.W.instObj C dx) ∧ R (.ok (.ret .notImplemented)) s) :=
  .of_wp fun prog w A R s h => by obtain ⟨hp, g, d, tk, os⟩ := s; obtain ⟨hl, h⟩ := h; wp_walk using wpAny_loadPart' hl, wpAny_load hl; exact ⟨_, rfl, h⟩
theorem du_add : PySem.dunder Operator.Add.info.2 = ("__add__" : Str) := by decide +kernel
theorem dr_add : dunderR Operator.Add.info.2 = ("__radd__" : Str) := by decide +kernel
theorem dec_add {prog : Program} {w : World} {A : Around} {E : Value → Shared → Prop} {s : Shared} {v : V} {u : Value} {l C dx : Addr} {Q : Option Value → Shared → Prop} (hv : (∃ i, v = .int i) ∨ ∃ b, v = .bl b) (r : RelV v u) (hl : s.heap.get? l = some (PySem.W.instObj C dx)) (q : Q none s) :
    wpAny (model prog w) A (tryMethod u (PySem.dunder "add") (.ref l)) Q E s := by
  rcases hv with ⟨i, rfl⟩ | ⟨b, rfl⟩
  · obtain ⟨t, z⟩ := (show ∃ t, u = Value.int i t from r)
    cases z
    refine wpAny_tryMethod_declines (T := "int") (id := "int.__add__") ?_ ?_ ?_
    · exact typeIs_int s i t
    · exact F.slot_int_add
    · refine call_meets (T := "int") (name := PySem.dunder "add") (id := "int.__add__") ?_ ?_ ?_ ?_ (db_int_add i t l C dx) ?_
      · exact F.slot_int_add
      · exact typeIs_int s i t
      · exact F.entry_int_add
      · exact F.args_int_add_2 _ _
      · exact ⟨hl, rfl, q⟩
  · cases (show u = Value.bool b from r)
    refine wpAny_tryMethod_declines (T := "bool") (id := "int.__add__") ?_ ?_ ?_
    · exact rfl
    · exact F.slot_bool_add
    · refine call_meets (T := "bool") (name := PySem.dunder "add") (id := "int.__add__") ?_ ?_ ?_ ?_ (db_bool_add b l C dx) ?_
      · exact F.slot_bool_add
      · exact rfl
      · exact F.entry_int_add
      · exact F.args_int_add_2 _ _
      · exact ⟨hl, rfl, q⟩
theorem du_sub : PySem.dunder Operator.Sub.info.2 = ("__sub__" : Str) := by decide +kernel
theorem dr_sub : dunderR Operator.Sub.info.2 = ("__rsub__" : Str) := by decide +kernel
theorem dec_sub {prog : Program} {w : World} {A : Around} {E : Value → Shared → Prop} {s : Shared} {v : V} {u : Value} {l C dx : Addr} {Q : Option Value → Shared → Prop} (hv : (∃ i, v = .int i) ∨ ∃ b, v = .bl b) (r : RelV v u) (hl : s.heap.get? l = some (PySem.W.instObj C dx)) (q : Q none s) :
    wpAny (model prog w) A (tryMethod u (PySem.dunder "sub") (.ref l)) Q E s := by
  rcases hv with ⟨i, rfl⟩ | ⟨b, rfl⟩
  · obtain ⟨t, z⟩ := (show ∃ t, u = Value.int i t from r)
    cases z
    refine wpAny_tryMethod_declines (T := "int") (id := "int.__sub__") ?_ ?_ ?_
    · exact typeIs_int s i t
    · exact F.slot_int_sub
    · refine call_meets (T := "int") (name := PySem.dunder "sub") (id := "int.__sub__") ?_ ?_ ?_ ?_ (db_int_sub i t l C dx) ?_
      · exact F.slot_int_sub
      · exact typeIs_int s i t
      · exact F.entry_int_sub
      · exact F.args_int_sub_2 _ _
      · exact ⟨hl, rfl, q⟩
  · cases (show u = Value.bool b from r)
    refine wpAny_tryMethod_declines (T := "bool") (id := "int.__sub__") ?_ ?_ ?_
    · exact rfl
    · exact F.slot_bool_sub
    · refine call_meets (T := "bool") (name := PySem.dunder "sub") (id := "int.__sub__") ?_ ?_ ?_ ?_ (db_bool_sub b l C dx) ?_
      · exact F.slot_bool_sub
      · exact rfl
      · exact F.entry_int_sub
      · exact F.args_int_sub_2 _ _
      · exact ⟨hl, rfl, q⟩
theorem du_mul : PySem.dunder Operator.Mult.info.2 = ("__mul__" : Str) := by decide +kernel
theorem dr_mul : dunderR Operator.Mult.info.2 = ("__rmul__" : Str) := by decide +kernel
theorem dec_mul {prog : Program} {w : World} {A : Around} {E : Value → Shared → Prop} {s : Shared} {v : V} {u : Value} {l C dx : Addr} {Q : Option Value → Shared → Prop} (hv : (∃ i, v = .int i) ∨ ∃ b, v = .bl b) (r : RelV v u) (hl : s.heap.get? l = some (PySem.W.instObj C dx)) (q : Q none s) :
    wpAny (model prog w) A (tryMethod u (PySem.dunder "mul") (.ref l)) Q E s := by
  rcases hv with ⟨i, rfl⟩ | ⟨b, rfl⟩
  · obtain ⟨t, z⟩ := (show ∃ t, u = Value.int i t from r)
    cases z
    refine wpAny_tryMethod_declines (T := "int") (id := "int.__mul__") ?_ ?_ ?_
    · exact typeIs_int s i t
    · exact F.slot_int_mul
    · refine call_meets (T := "int") (name := PySem.dunder "mul") (id := "int.__mul__") ?_ ?_ ?_ ?_ (db_int_mul i t l C dx) ?_
      · exact F.slot_int_mul
      · exact typeIs_int s i t
      · exact F.entry_int_mul
      · exact F.args_int_mul_2 _ _
      · exact ⟨hl, rfl, q⟩
  · cases (show u = Value.bool b from r)
    refine wpAny_tryMethod_declines (T := "bool") (id := "int.__mul__") ?_ ?_ ?_
    · exact rfl
    · exact F.slot_bool_mul
    · refine call_meets (T := "bool") (name := PySem.dunder "mul") (id := "int.__mul__") ?_ ?_ ?_ ?_ (db_bool_mul b l C dx) ?_
      · exact F.slot_bool_mul
      · exact rfl
      · exact F.entry_int_mul
      · exact F.args_int_mul_2 _ _
      · exact ⟨hl, rfl, q⟩
theorem du_floordiv : PySem.dunder Operator.FloorDiv.info.2 = ("__floordiv__" : Str) := by decide +kernel
theorem dr_floordiv : dunderR Operator.FloorDiv.info.2 = ("__rfloordiv__" : Str) := by decide +kernel
theorem dec_floordiv {prog : Program} {w : World} {A : Around} {E : Value → Shared → Prop} {s : Shared} {v : V} {u : Value} {l C dx : Addr} {Q : Option Value → Shared → Prop} (hv : (∃ i, v = .int i) ∨ ∃ b, v = .bl b) (r : RelV v u) (hl : s.heap.get? l = some (PySem.W.instObj C dx)) (q : Q none s) :
    wpAny (model prog w) A (tryMethod u (PySem.dunder "floordiv") (.ref l)) Q E s := by
  rcases hv with ⟨i, rfl⟩ | ⟨b, rfl⟩
  · obtain ⟨t, z⟩ := (show ∃ t, u = Value.int i t from r)
    cases z
    refine wpAny_tryMethod_declines (T := "int") (id := "int.__floordiv__") ?_ ?_ ?_
    · exact typeIs_int s i t
    · exact F.slot_int_floordiv
    · refine call_meets (T := "int") (name := PySem.dunder "floordiv") (id := "int.__floordiv__") ?_ ?_ ?_ ?_ (db_int_floordiv i t l C dx) ?_
      · exact F.slot_int_floordiv
      · exact typeIs_int s i t
      · exact F.entry_int_floordiv
      · exact F.args_int_floordiv_2 _ _
      · exact ⟨hl, rfl, q⟩
  · cases (show u = Value.bool b from r)
    refine wpAny_tryMethod_declines (T := "bool") (id := "int.__floordiv__") ?_ ?_ ?_
    · exact rfl
    · exact F.slot_bool_floordiv
    · refine call_meets (T := "bool") (name := PySem.dunder "floordiv") (id := "int.__floordiv__") ?_ ?_ ?_ ?_ (db_bool_floordiv b l C dx) ?_
      · exact F.slot_bool_floordiv
      · exact rfl
      · exact F.entry_int_floordiv
      · exact F.args_int_floordiv_2 _ _
      · exact ⟨hl, rfl, q⟩
theorem du_mod : PySem.dunder Operator.Mod.info.2 = ("__mod__" : Str) := by decide +kernel
theorem dr_mod : dunderR Operator.Mod.info.2 = ("__rmod__" : Str) := by decide +kernel
theorem dec_mod {prog : Program} {w : World} {A : Around} {E : Value → Shared → Prop} {s : Shared} {v : V} {u : Value} {l C dx : Addr} {Q : Option Value → Shared → Prop} (hv : (∃ i, v = .int i) ∨ ∃ b, v = .bl b) (r : RelV v u) (hl : s.heap.get? l = some (PySem.W.instObj C dx)) (q : Q none s) :
    wpAny (model prog w) A (tryMethod u (PySem.dunder "mod") (.ref l)) Q E s := by
  rcases hv with ⟨i, rfl⟩ | ⟨b, rfl⟩
  · obtain ⟨t, z⟩ := (show ∃ t, u = Value.int i t from r)
    cases z
    refine wpAny_tryMethod_declines (T := "int") (id := "int.__mod__") ?_ ?_ ?_
    · exact typeIs_int s i t
    · exact F.slot_int_mod
    · refine call_meets (T := "int") (name := PySem.dunder "mod") (id := "int.__mod__") ?_ ?_ ?_ ?_ (db_int_mod i t l C dx) ?_
      · exact F.slot_int_mod
      · exact typeIs_int s i t
      · exact F.entry_int_mod
      · exact F.args_int_mod_2 _ _
      · exact ⟨hl, rfl, q⟩
  · cases (show u = Value.bool b from r)
    refine wpAny_tryMethod_declines (T := "bool") (id := "int.__mod__") ?_ ?_ ?_
    · exact rfl
    · exact F.slot_bool_mod
    · refine call_meets (T := "bool") (name := PySem.dunder "mod") (id := "int.__mod__") ?_ ?_ ?_ ?_ (db_bool_mod b l C dx) ?_
      · exact F.slot_bool_mod
      · exact rfl
      · exact F.entry_int_mod
      · exact F.args_int_mod_2 _ _
      · exact ⟨hl, rfl, q⟩

def DeclB (nm : String) : Prop := ∀ {prog : Program} {w : World} {A : Around} {E : Value → Shared → Prop} {s : Shared} {v : V} {u : Value} {l C dx : Addr} {Q : Option Value → Shared → Prop}, ((∃ i, v = .int i) ∨ ∃ b, v = .bl b) → RelV v u → s.heap.get? l = some (PySem.W.instObj C dx) → Q none s →
  wpAny (model prog w) A (tryMethod u (PySem.dunder nm) (.ref l)) Q E s
/-- o op v, o an instance of C -/
def rBin (K : PySem.W.Frag) (C : Addr) (nm : String) (sp : Sp) (E : XK) : R2 := fun x y H Q => ∃ a dx fs, x = .ref a ∧ H a = some (.ins C dx fs) ∧ ((∃ n lf, TyX K H y (.type n) ∧ BinT K C nm n lf) ∨ ∃ b dy gs, y = .ref b ∧ H b = some (.ins C dy gs)) ∧ sp [x, y] H Q E
/-- v op o, v of a built-in kind -/
def rBinR (K : PySem.W.Frag) (C : Addr) (nm : String) (sp : Sp) (E : XK) : R2 := fun x y H Q => ∃ a dx fs n lf, y = .ref a ∧ H a = some (.ins C dx fs) ∧ OddV H x n ∧ BinT K C nm n lf ∧ (lf = false ∨ (∃ i, x = .int i) ∨ ∃ b, x = .bl b) ∧ sp [y, x] H Q E
section
variable {X : Cx} {CX : CXT} {j k : Nat} {C : Addr} {sp : Sp} {E : XK} {m mr : Str}
theorem op_bin {op : Operator} (e1 : PySem.dunder op.info.2 = m) (e2 : dunderR op.info.2 = mr) (c : Op X.prog X.w X.K X.mg X.base CX k C m sp) (cl : InsC X.K C) (sel : PySem.W.selfFirst X.K C = true) (rr : ∃ rc, PySem.W.findIn X.K (.ref C) mr = some rc ∧ (rc = none ∨ ∃ g : Addr, rc = some (.ref g)))
    (hr : Room j X.A) (hk : k ≤ j) (hx : Passes CX X E) : OpR X (binaryOp op) (rBin X.K C op.info.2 sp E) := by
  subst e1 e2
  obtain ⟨f, fd, ps, F, h1, h2, b⟩ := c
  obtain ⟨rc, r1, r2⟩ := rr
  intro pins s σ H x y v u Q I rx ry h
  obtain ⟨a, dx, fs, rfl, ha, hy, q⟩ := h
  cases (show v = Value.ref a from rx)
  obtain ⟨mA, J, _⟩ := ins_get I.hok ha
  obtain ⟨od, J, _⟩ := J.look
  obtain ⟨m, hF⟩ := I.fr
  have run := wpAny_mono (run_fn (us := [.ref a, u]) (vs := [.ref a, y]) F (hr.mono hk) b .nil hx I (.cons rfl (.cons ry .nil)) q) (fun w s' (z : EP X pins σ Q w s') => show PySem.W.CmpBack (EP X pins σ Q) w s' from by
    obtain ⟨z', H', I', rz, qz⟩ := z
    exact cmp_back rz ⟨z', H', I', rz, qz⟩) fun _ _ x => x
  rcases hy with ⟨n, lf, ty, B⟩ | ⟨b', dy, gs, rfl, hb'⟩
  · obtain ⟨P, Z, hp, _⟩ := kit_of I ry ty
    obtain ⟨fo, ro, e1, e2, _⟩ := B.ex
    exact bin_L hF I.ok.mod.kin J (Z.ty _ _ I.kIn hp) sel h1 h2 r1 r2 e1 e2 B.sub run
  · obtain ⟨P, Z, hp, _⟩ := kit_of I ry (tyIns cl hb')
    exact PySem.W.binop_K hF I.ok.mod.kin J (Z.ty _ _ I.kIn hp) sel h1 h2 run
theorem op_binR {op : Operator} {f0 : Addr} (e1 : PySem.dunder op.info.2 = m) (e2 : dunderR op.info.2 = mr) (dc : DeclB op.info.2) (hs : PySem.W.findIn X.K (.ref C) m = some (some (.ref f0))) (c : Op X.prog X.w X.K X.mg X.base CX k C mr sp) (sel : PySem.W.selfFirst X.K C = true)
    (hr : Room j X.A) (hk : k ≤ j) (hx : Passes CX X E) : OpR X (binaryOp op) (rBinR X.K C op.info.2 sp E) := by
  subst e1 e2
  obtain ⟨f, fd, ps, F, h1, h2, b⟩ := c
  intro pins s σ H x y v u Q I rx ry h
  obtain ⟨a, dx, fs, n, lf, rfl, ha, o, B, hd, q⟩ := h
  cases (show u = Value.ref a from ry)
  obtain ⟨mA, J, _⟩ := ins_get I.hok ha
  have hobj := J.obj
  obtain ⟨od, J, _⟩ := J.look
  obtain ⟨m, hF⟩ := I.fr
  have run := wpAny_mono (run_fn (us := [.ref a, v]) (vs := [.ref a, x]) F (hr.mono hk) b .nil hx I (.cons rfl (.cons rx .nil)) q) (fun w s' (z : EP X pins σ Q w s') => show PySem.W.CmpBack (EP X pins σ Q) w s' from by
    obtain ⟨z', H', I', rz, qz⟩ := z
    exact cmp_back rz ⟨z', H', I', rz, qz⟩) fun _ _ x => x
  obtain ⟨P, Z, hp, _⟩ := kit_of I rx (o.ty (K := X.K))
  obtain ⟨fo, ro, e1, e2, e3⟩ := B.ex
  refine bin_R hF I.ok.mod.kin J (Z.ty _ _ I.kIn hp) sel hs h1 h2 e1 e2 B.mro (fun lt Q' q' => ?_) run
  rcases hd with hd | hd
  · rw [e3, hd] at lt
    cases lt
  · exact dc hd rx hobj q'
theorem op_bink {op : Operator} {K' : PySem.W.Frag} (hK : X.K = K') (e1 : PySem.dunder op.info.2 = m) (e2 : dunderR op.info.2 = mr) (c : Op X.prog X.w X.K X.mg X.base CX k C m sp) (cl : InsC X.K C) (sel : PySem.W.selfFirst X.K C = true) (rr : ∃ rc, PySem.W.findIn X.K (.ref C) mr = some rc ∧ (rc = none ∨ ∃ g : Addr, rc = some (.ref g)))
    (hr : Room j X.A) (hk : k ≤ j) (hx : Passes CX X E) : OpR X (binaryOp op) (rBin K' C op.info.2 sp E) := by
  subst hK
  exact op_bin e1 e2 c cl sel rr hr hk hx
theorem op_binRk {op : Operator} {f0 : Addr} {K' : PySem.W.Frag} (hK : X.K = K') (e1 : PySem.dunder op.info.2 = m) (e2 : dunderR op.info.2 = mr) (dc : DeclB op.info.2) (hs : PySem.W.findIn X.K (.ref C) m = some (some (.ref f0))) (c : Op X.prog X.w X.K X.mg X.base CX k C mr sp) (sel : PySem.W.selfFirst X.K C = true)
    (hr : Room j X.A) (hk : k ≤ j) (hx : Passes CX X E) : OpR X (binaryOp op) (rBinR K' C op.info.2 sp E) := by
  subst hK
  exact op_binR e1 e2 dc hs c sel hr hk hx
end
section
variable {K : PySem.W.Frag} {H : Hp} {Q : VK} {C a b dx dy : Addr} {fs gs : List (Str × V)} {nm n : String} {lf : Bool} {sp : Sp} {E : XK} {x : V}
theorem go_binS (h : H a = some (.ins C dx fs)) (h' : H b = some (.ins C dy gs)) (k : sp [.ref a, .ref b] H Q E) : rBin K C nm sp E (.ref a) (.ref b) H Q := ⟨a, dx, fs, rfl, h, .inr ⟨b, dy, gs, rfl, h'⟩, k⟩
theorem go_binT (h : H a = some (.ins C dx fs)) (ty : TyX K H x (.type n)) (B : BinT K C nm n lf) (k : sp [.ref a, x] H Q E) : rBin K C nm sp E (.ref a) x H Q := ⟨a, dx, fs, rfl, h, .inl ⟨n, lf, ty, B⟩, k⟩
theorem go_binR (h : H a = some (.ins C dx fs)) (o : OddV H x n) (B : BinT K C nm n lf) (hd : lf = false ∨ (∃ i, x = .int i) ∨ ∃ b, x = .bl b) (k : sp [.ref a, x] H Q E) : rBinR K C nm sp E x (.ref a) H Q := ⟨a, dx, fs, n, lf, rfl, h, o, B, hd, k⟩
end
/-! ### in place: as the operator, where the class has no method of its own for it -/
section
variable {prog : Program} {w : World} {A : Around} {E : Value → Shared → Prop} {s : Shared} {K : PySem.W.Frag} {x C f f0 L : Addr} {ox : Obj} {od : Option Obj} {h0 : Heap} {m : Str → Option Value} {T : String}
theorem noInp {M : Model} {h : Heap} {i : Str} (X : K.In h) (g : Value → Value → Sem Bool) : ∀ {l : List Value}, (l.all fun c => PySem.W.findIn K c i == some none) = true →
    PySem.W.Looks M h (l.anyM fun c => do
      let some x ← typeLookup c i | return false
      g c x) false
  | [], _ => PySem.W.Looks.of_pure rfl
  | c :: l, hl => by
    rw [List.all_cons, Bool.and_eq_true] at hl
    intro A Q E s k q
    rw [List.anyM_cons]
    refine wpAny_bind (wpAny_bind ((PySem.W.looks_findIn X (beq_iff_eq.mp hl.1)) A _ E s k ?_))
    refine wpAny_pure ?_
    exact noInp X g hl.2 A Q E s k q
theorem fillsI_none {h : Heap} {cd : ClassData} {nm : String} {add : Bool} {M : Model} (X : K.In h) (hc : PySem.W.clsIn K C = some cd) (hl : (cd.mro.all fun c => PySem.W.findIn K c (dunderI nm) == some none) = true) :
    PySem.W.Looks M h (fillsInplaceSlot (.ref C) nm add) false := by
  intro A Q E s k q
  have Lm : PySem.W.Looks M h (mroOf (.ref C)) cd.mro := (PySem.W.looks_clsIn X hc).andThen (f := fun cd => pure cd.mro) .now
  unfold fillsInplaceSlot
  refine wpAny_bind (Lm A _ E s k ?_)
  exact noInp X _ hl A Q E s k q
theorem bin1_S {nm' : String} {b : Value} {Q : Value → Shared → Prop} (FF : PyProof.Rows.Fr h0 L s.heap m) (X0 : K.In h0) (I : PySem.W.InstAt s.heap x ox C od) (hb : PySem.W.Looks (model prog w) s.heap (typeOf b) (.ref C)) (hc : PySem.W.selfFirst K C = true)
    (hs : PySem.W.findIn K (.ref C) (PySem.dunder nm') = some (some (.ref f))) (hf : PySem.W.isFn K (.ref f) = true)
    (h : wpAny (model prog w) A (call (.ref f) [.ref x, b]) (PySem.W.CmpBack Q) E s) : wpAny (model prog w) A (binaryOp1 nm' (.ref x) b) (fun r s' => ∃ v, r = some v ∧ Q v s') E s := by
  have X := X0.keeps FF.keep
  obtain ⟨cd, rest, hcd, hm⟩ := PySem.W.ksp_first hc
  have one := PySem.W.ksp_try X I hs hf h
  unfold binaryOp1
  refine wpAny_bind (I.type.here (wpAny_bind (hb.here (wpAny_bind ((PySem.W.fills_K X hcd hm hs).here ?_)))))
  simp only [beq_self_eq_true, if_true]
  refine wpAny_bind (wpAny_pure ?_)
  simp only [Bool.and_false, Bool.false_eq_true, if_false, Bool.false_and]
  refine wpAny_bind (wpAny_pure ?_)
  simp only [Bool.false_eq_true, if_false]
  refine wpAny_bind (wpAny_mono one (fun r s' hr' => ?_) fun _ _ e => e)
  obtain ⟨v, rfl, hq⟩ := hr'
  exact wpAny_pure ⟨_, rfl, hq⟩
theorem inp_of {op : Operator} {cd : ClassData} {b : Value} {Q : Value → Shared → Prop} (X : K.In s.heap) (I : PySem.W.InstAt s.heap x ox C od) (hc : PySem.W.clsIn K C = some cd) (hl : (cd.mro.all fun c => PySem.W.findIn K c (dunderI op.info.2) == some none) = true)
    (h : wpAny (model prog w) A (binaryOp1 op.info.2 (.ref x) b) (fun r s' => ∃ v, r = some v ∧ Q v s') E s) : wpAny (model prog w) A (inplaceOp op (.ref x) b) Q E s := by
  unfold inplaceOp
  refine wpAny_holding ?_
  refine wpAny_bind (I.type.here ?_)
  refine wpAny_bind ((fillsI_none X hc hl).here ?_)
  simp only [Bool.false_eq_true, if_false]
  refine wpAny_bind (wpAny_mono h (fun r s' hr' => ?_) fun _ _ e => e)
  obtain ⟨v, rfl, hq⟩ := hr'
  exact wpAny_pure hq
end
section
variable {X : Cx} {CX : CXT} {j k : Nat} {C : Addr} {sp : Sp} {E : XK} {m mr : Str}
/-- o op= v, as o op v -/
theorem op_inp {op : Operator} (e1 : PySem.dunder op.info.2 = m) (e2 : dunderR op.info.2 = mr) (ni : noInpB X.K C op.info.2) (c : Op X.prog X.w X.K X.mg X.base CX k C m sp) (cl : InsC X.K C) (sel : PySem.W.selfFirst X.K C = true) (rr : ∃ rc, PySem.W.findIn X.K (.ref C) mr = some rc ∧ (rc = none ∨ ∃ g : Addr, rc = some (.ref g)))
    (hr : Room j X.A) (hk : k ≤ j) (hx : Passes CX X E) : OpR X (inplaceOp op) (rBin X.K C op.info.2 sp E) := by
  subst e1 e2
  obtain ⟨f, fd, ps, F, h1, h2, b⟩ := c
  obtain ⟨rc, r1, r2⟩ := rr
  obtain ⟨cd, n1, n2⟩ := ni
  intro pins s σ H x y v u Q I rx ry h
  obtain ⟨a, dx, fs, rfl, ha, hy, q⟩ := h
  cases (show v = Value.ref a from rx)
  obtain ⟨mA, J, _⟩ := ins_get I.hok ha
  obtain ⟨od, J, _⟩ := J.look
  obtain ⟨m, hF⟩ := I.fr
  have run := wpAny_mono (run_fn (us := [.ref a, u]) (vs := [.ref a, y]) F (hr.mono hk) b .nil hx I (.cons rfl (.cons ry .nil)) q) (fun w s' (z : EP X pins σ Q w s') => show PySem.W.CmpBack (EP X pins σ Q) w s' from by
    obtain ⟨z', H', I', rz, qz⟩ := z
    exact cmp_back rz ⟨z', H', I', rz, qz⟩) fun _ _ x => x
  refine inp_of I.kIn J n1 n2 ?_
  rcases hy with ⟨n, lf, ty, B⟩ | ⟨b', dy, gs, rfl, hb'⟩
  · obtain ⟨P, Z, hp, _⟩ := kit_of I ry ty
    obtain ⟨fo, ro, e1, e2, _⟩ := B.ex
    exact bin1_L hF I.ok.mod.kin J (Z.ty _ _ I.kIn hp) sel h1 h2 r1 r2 e1 e2 B.sub run
  · obtain ⟨P, Z, hp, _⟩ := kit_of I ry (tyIns cl hb')
    exact bin1_S hF I.ok.mod.kin J (Z.ty _ _ I.kIn hp) sel h1 h2 run
end
end CT
namespace CT
open PySem PySem.Spec PyProof.Rows L2
open He (ga ma fAd)

/-! ### numbers by their bits -/
/-- of at most k bits -/
def Bt (k : Nat) (i : Int) : Prop := i.natAbs < 2 ^ k
section
variable {i j : Int} {k l m : Nat}
theorem Bt.mono (h : Bt k i) (e : k ≤ l) : Bt l i := Nat.lt_of_lt_of_le h (Nat.pow_le_pow_right (by decide) e)
theorem Bt.neg (h : Bt k i) : Bt k (-i) := by
  unfold Bt
  rw [Int.natAbs_neg]
  exact h
theorem Bt.mul (h : Bt k i) (g : Bt l j) : Bt (k + l) (i * j) := by
  unfold Bt at h g ⊢
  rw [Int.natAbs_mul, Nat.pow_add]
  exact Nat.mul_lt_mul'' h g
theorem Bt.add (h : Bt k i) (g : Bt l j) : Bt (max k l + 1) (i + j) := by
  have h' := h.mono (Nat.le_max_left k l)
  have g' := g.mono (Nat.le_max_right k l)
  unfold Bt at h' g' ⊢
  rw [Nat.pow_succ]
  omega
theorem Bt.sub (h : Bt k i) (g : Bt l j) : Bt (max k l + 1) (i - j) := by
  rw [Int.sub_eq_add_neg]
  exact h.add g.neg
theorem Bt.le (h : Bt k i) (g : j.natAbs ≤ i.natAbs) : Bt k j := Nat.lt_of_le_of_lt g h
theorem Bt.div (h : Bt k i) (g : 0 < j) : Bt (k + 1) (i / j) := by
  unfold Bt at h ⊢
  rw [Nat.pow_succ]
  have a := divB (t := i) (b := j) (B := (2 : Int) ^ k) g (by
    have : ((2 ^ k : Nat) : Int) = (2 : Int) ^ k := by exact_mod_cast rfl
    omega) (by
    have : ((2 ^ k : Nat) : Int) = (2 : Int) ^ k := by exact_mod_cast rfl
    omega)
  have : ((2 ^ k : Nat) : Int) = (2 : Int) ^ k := by exact_mod_cast rfl
  omega
theorem Bt.mod (g : 0 < j) (h : Bt k j) : Bt k (i % j) := by
  have a := Int.emod_nonneg i (show j ≠ 0 by omega)
  have b := Int.emod_lt_of_pos i g
  unfold Bt at h ⊢
  omega
theorem Bt.abs (h : Bt k i) : Bt k (if i < 0 then -i else i) := by
  split
  · exact h.neg
  · exact h
theorem Bt.log (h : Bt k i) (hk : 0 < k) : i.natAbs.log2 < k := by
  by_cases z : i.natAbs = 0
  · rw [z]
    exact hk
  · exact (Nat.log2_lt z).mpr h
theorem Bt.mulW (h : Bt k i) (g : Bt l j) (e : k + l ≤ 900000) : CMulW i j := by
  have a := (h.mono (Nat.le_succ k)).log (Nat.succ_pos k)
  have b := (g.mono (Nat.le_succ l)).log (Nat.succ_pos l)
  show i.natAbs.log2 + j.natAbs.log2 < 1000000
  omega
theorem Bt.divW (h : 0 < j) (g : Bt l j) (e : l ≤ 8000) : CDivW i j := ⟨h, by
  have b := (g.mono (Nat.le_succ l)).log (Nat.succ_pos l)
  omega⟩
theorem Bt.divV (h : j ≠ 0) (g : Bt l j) (e : l ≤ 8000) : CDivV i j := ⟨h, by
  have b := (g.mono (Nat.le_succ l)).log (Nat.succ_pos l)
  omega⟩
theorem Bt.of (k : Nat) (h1 : -(2 : Int) ^ k < i) (h2 : i < (2 : Int) ^ k) : Bt k i := by
  unfold Bt
  have : ((2 ^ k : Nat) : Int) = (2 : Int) ^ k := by exact_mod_cast rfl
  omega
end
end CT
namespace CT
open PySem PySem.Spec PyProof.Rows L2
open He (ga ma fAd)

/-! ### o.m(k = v, ..) -/
def tMethK (C : Addr) (m : Str) (sp : Sp) (l : Nat) (gV : List V → List V → List V) (E : XK) (ta : TE) (tk : TA) : TE := fun σ H Q => ta σ H fun x H1 => ∃ (a dx : Addr) (fs : List (Str × V)), x = .ref a ∧ H1 a = some (.ins C dx fs) ∧ fs.lookup m = none ∧
  tk σ H1 fun zs H2 => zs.length = l ∧ sp (gV [x] zs) H2 Q E
section
variable {X : Cx} {CX : CXT} {k : Nat} {f C : Addr} {fd : FuncData} {ps ks : List Str} {sp : Sp} {E : XK} {m : Str} {apos pos : Pos} {o : Expr} {kws : List Keyword} {ta : TE} {tk : TA} {g : List Value → List Value → List Value} {gV : List V → List V → List V}
theorem pe_methK0 {pl : Sem Bool} (he : PE X o ta) (c : Cls X.K C) (hm : Meth X.K C m f) (F : FnOk X.prog X.w X.K X.mg X.base CX k f fd ps sp) (hr : Room k X.A) (hb : KBn X.K fd ps 1 ks g gV) (hx : Passes CX X E) (hkw : PK X kws tk)
    (hall : (backToKw pos (keywordEach kws X.env)).all (·.1.isSome) = true := by rfl) (hks : (backToKw pos (keywordEach kws X.env)).filterMap (·.1) = ks := by rfl)
    (hpl : ((backTo pos (starEach [] X.env)).any (·.1) || (backToKw pos (keywordEach kws X.env)).any (·.1.isNone)) = false := by rfl)
    (ht : eval (.Call (.Attribute o m apos) [] kws pos) X.env = (do
      let ov ← eval o X.env
      standAt apos.atName
      let (f, first) ← holding [ov] (getMethod ov m pl)
      callWith pos f first (backTo pos (starEach [] X.env)) (backToKw pos (keywordEach kws X.env))) := by rfl) :
    PE X (.Call (.Attribute o m apos) [] kws pos) (tMethK C m sp ks.length gV E ta tk) := by
  refine ⟨fun pins s σ H Q I h => ?_⟩
  refine PySem.W.methodCall_KW (pl := pl) (thn (he.run pins s σ H _ I h) fun u s1 ⟨x, H1, I1, rx, a, dx, fs, ex, ea, l, q⟩ => ?_) ht
  subst ex
  obtain rfl : u = Value.ref a := rx
  refine getmeth_ok I1 ea c hm l ?_
  refine PySem.W.callWith_KW0 (first := [.ref a]) (h₀ := X.base) I.ok.mod.kin hm.kp hall ?_ hpl
  refine thn (hkw.run pos pins s1 σ H1 _ I1 q) fun ws s2 ⟨zs, H2, I2, rz, l2, q2⟩ => ⟨I2.kIn, ?_⟩
  rw [hks]
  exact run_fnN (us := [.ref a]) (vs := [.ref a]) F hr hb hx I2 (.cons rfl .nil) rz rfl l2 q2
end
def MeK (P : Program) (w : World) (K : PySem.W.Frag) (mg : Str → Option Value) (base : Heap) (CX : CXT) (k : Nat) (C : Addr) (m : Str) (sp : Sp) (ks : List Str) (gV : List V → List V → List V) : Prop :=
  ∃ f fd ps g, FnOk P w K mg base CX k f fd ps sp ∧ Cls K C ∧ Meth K C m f ∧ KBn K fd ps 1 ks g gV
section
variable {X : Cx} {CX : CXT} {j k : Nat} {C : Addr} {ks : List Str} {sp : Sp} {E : XK} {m : Str} {apos pos : Pos} {o : Expr} {kws : List Keyword} {ta : TE} {tk : TA} {gV : List V → List V → List V}
theorem pe_mek {pl : Sem Bool} (c : MeK X.prog X.w X.K X.mg X.base CX k C m sp ks gV) (hr : Room j X.A) (hk : k ≤ j) (hx : Passes CX X E) (he : PE X o ta) (hkw : PK X kws tk)
    (hall : (backToKw pos (keywordEach kws X.env)).all (·.1.isSome) = true := by rfl) (hks : (backToKw pos (keywordEach kws X.env)).filterMap (·.1) = ks := by rfl)
    (hpl : ((backTo pos (starEach [] X.env)).any (·.1) || (backToKw pos (keywordEach kws X.env)).any (·.1.isNone)) = false := by rfl)
    (ht : eval (.Call (.Attribute o m apos) [] kws pos) X.env = (do
      let ov ← eval o X.env
      standAt apos.atName
      let (f, first) ← holding [ov] (getMethod ov m pl)
      callWith pos f first (backTo pos (starEach [] X.env)) (backToKw pos (keywordEach kws X.env))) := by rfl) :
    PE X (.Call (.Attribute o m apos) [] kws pos) (tMethK C m sp ks.length gV E ta tk) := by
  obtain ⟨f, fd, ps, g, F, cl, hm, b⟩ := c
  exact pe_methK0 he cl hm F (hr.mono hk) b hx hkw hall hks hpl ht
end
def rMethK (C : Addr) (m : Str) (sp : Sp) (l : Nat) (gV : List V → List V → List V) (E : XK) (tk : TA) (σ : L2.St) (x : V) (H1 : Hp) (Q : VK) : Prop := ∃ (a dx : Addr) (fs : List (Str × V)), x = .ref a ∧ H1 a = some (.ins C dx fs) ∧ fs.lookup m = none ∧
  tk σ H1 fun zs H2 => zs.length = l ∧ sp (gV [x] zs) H2 Q E
theorem go_methK {C : Addr} {m : Str} {sp : Sp} {l : Nat} {gV : List V → List V → List V} {E : XK} {ta : TE} {tk : TA} {σ : L2.St} {H : Hp} {Q : VK} (k : ta σ H fun x H1 => rMethK C m sp l gV E tk σ x H1 Q) : tMethK C m sp l gV E ta tk σ H Q := k
theorem methK_x {C a dx : Addr} {fs : List (Str × V)} {m : Str} {sp : Sp} {n : Nat} {gV : List V → List V → List V} {E : XK} {tk : TA} {σ : L2.St} {H : Hp} {Q : VK} (h : H a = some (.ins C dx fs)) (l : fs.lookup m = none) (k : tk σ H fun zs H2 => zs.length = n ∧ sp (gV [.ref a] zs) H2 Q E) :
    rMethK C m sp n gV E tk σ (.ref a) H Q := ⟨a, dx, fs, rfl, h, l, k⟩
theorem Er1.sm {K : PySem.W.Frag} {x f : Str} {v : V} {H H1 : Hp} {E : XK} (s : Same H H1) (h : Er1 K x f v H E) : Er1 K x f v H1 E := fun d H' n s' hd => h d H' (no_sm s n) (s.trans s') hd
theorem go_aug {i : Nat} {te : TE} {ti : TIp} {D : Ends} {σ : L2.St} {H : Hp} {x : V} (h : σ[i]? = some (some x)) (k : te σ H fun y H1 => ti x y H1 fun z H2 => gName i z σ H2 D.nx) : tAug i te ti D σ H := ⟨x, h, k⟩
end CT
namespace CT
open PySem PySem.Spec PyProof.Rows L2
open He (ga ma fAd)

/-! ### methods of the class: C.m(..), C.m(k = v), and cls(..) within -/
section
variable {K : PySem.W.Frag} {C x : Addr} {m : Str}
theorem cmet_f {x m : Str} (h : (Fc.cmet x m).ok K = true) : ClX.CMet K (ga K x) (clsMc K (ga K x)) m (cmAt K (ga K x) m) (recHead K (cmAt K (ga K x) m) "classmethod") := by
  obtain ⟨h1, h⟩ := ba h
  obtain ⟨h2, h3⟩ := ba h
  refine ⟨?_, ?_, h3⟩
  · unfold cmB at h1
    unfold cmAt
    split at h1
    · rename_i b p D e
      obtain ⟨e1, e2⟩ := ba h1
      have e1' := of_decide_eq_true e1
      have e2' := of_decide_eq_true e2
      subst e1' e2'
      rw [e]
    · cases h1
  · exact recB_ok h2
end
section
variable {P : Program} {w : World} {K : PySem.W.Frag} {mg : Str → Option Value} {base : Heap} {CX : CXT} {k : Nat} {f : Addr} {fd : FuncData} {ps : List Str} {sp : Sp}
theorem fnR_of (F : FnOk P w K mg base CX k f fd ps sp) (b : Binds K fd ps []) : FnR P w K mg base CX k f sp := fun A outer s H us vs Q E hr e0 r h => by
  have kin : K.In s.heap := fun a o q => (e0.bs a o (e0.mod.kin a o q)).1
  have r' : Vals vs (us ++ []) := by rw [List.append_nil]; exact r
  exact F.run A outer s H ⟨us, []⟩ (us ++ []) vs Q E hr e0 (b s us kin (by rw [← r'.length]; exact F.len _ _ _ _ h)) r' h
/-- a method of the class at C -/
def Cm (P : Program) (w : World) (K : PySem.W.Frag) (mg : Str → Option Value) (base : Heap) (CX : CXT) (k : Nat) (C : Addr) (m : Str) (sp : Sp) : Prop :=
  ∃ p g fd ps, FnOk P w K mg base CX k g fd ps sp ∧ ClX.CRead K C (clsMc K C) ∧ ClX.CMet K C (clsMc K C) m p g ∧ Binds K fd ps []
def CmK (P : Program) (w : World) (K : PySem.W.Frag) (mg : Str → Option Value) (base : Heap) (CX : CXT) (k : Nat) (C : Addr) (m : Str) (sp : Sp) (ks : List Str) (gV : List V → List V → List V) : Prop :=
  ∃ p q fd ps g, FnOk P w K mg base CX k q fd ps sp ∧ ClX.CRead K C (clsMc K C) ∧ ClX.CMet K C (clsMc K C) m p q ∧ KBn K fd ps 1 ks g gV
end
section
variable {X : Cx} {CX : CXT} {j k i : Nat} {C : Addr} {ks : List Str} {sp : Sp} {E : XK} {m x : Str} {p apos pos : Pos} {o e : Expr} {es : List Expr} {kws : List Keyword} {ta : TE} {t tk : TA} {gV : List V → List V → List V} {dvs : List V}
theorem pe_cm {pl : Sem Bool} (c : Cm X.prog X.w X.K X.mg X.base CX k C m sp) (hr : Room j X.A) (hk : k ≤ j) (hx : Passes CX X E) (he : PE X o ta) (ha : PA X (e :: es) t)
    (hst : starEach (e :: es) X.env = (false, eval e X.env) :: starEach es X.env := by rfl) (hpl : (backTo pos (starEach es X.env)).any (·.1) = false := by rfl)
    (ht : eval (.Call (.Attribute o m apos) (e :: es) [] pos) X.env = (do
      let ov ← eval o X.env
      standAt apos.atName
      let (f, first) ← holding [ov] (getMethod ov m pl)
      callWith pos f first (backTo pos (starEach (e :: es) X.env)) (backToKw pos (keywordEach [] X.env))) := by rfl) :
    PE X (.Call (.Attribute o m apos) (e :: es) [] pos) (ClX.tCMeth C sp E ta t) := by
  obtain ⟨p, g, fd, ps, F, r, c, b⟩ := c
  exact ClX.pe_cmeth he r c (fnR_of F b) (hr.mono hk) hx ha hst hpl ht
/-- C.m(k = v, ..) -/
def tCMethK (C : Addr) (sp : Sp) (l : Nat) (gV : List V → List V → List V) (E : XK) (ta : TE) (tk : TA) : TE := fun σ H Q => ta σ H fun x H1 => x = .ref C ∧ tk σ H1 fun zs H2 => zs.length = l ∧ sp (gV [.ref C] zs) H2 Q E
theorem pe_cmK {pl : Sem Bool} (c : CmK X.prog X.w X.K X.mg X.base CX k C m sp ks gV) (hr : Room j X.A) (hk : k ≤ j) (hx : Passes CX X E) (he : PE X o ta) (hkw : PK X kws tk)
    (hall : (backToKw pos (keywordEach kws X.env)).all (·.1.isSome) = true := by rfl) (hks : (backToKw pos (keywordEach kws X.env)).filterMap (·.1) = ks := by rfl)
    (hpl : ((backTo pos (starEach [] X.env)).any (·.1) || (backToKw pos (keywordEach kws X.env)).any (·.1.isNone)) = false := by rfl)
    (ht : eval (.Call (.Attribute o m apos) [] kws pos) X.env = (do
      let ov ← eval o X.env
      standAt apos.atName
      let (f, first) ← holding [ov] (getMethod ov m pl)
      callWith pos f first (backTo pos (starEach [] X.env)) (backToKw pos (keywordEach kws X.env))) := by rfl) :
    PE X (.Call (.Attribute o m apos) [] kws pos) (tCMethK C sp ks.length gV E ta tk) := by
  obtain ⟨p, q, fd, ps, g, F, r, c, b⟩ := c
  refine ⟨fun pins s σ H Q I h => ?_⟩
  refine PySem.W.methodCall_KW (pl := pl) (thn (he.run pins s σ H _ I h) fun u s1 ⟨x, H1, I1, rx, ex, q1⟩ => ?_) ht
  subst ex
  cases (show u = Value.ref C from rx)
  refine ClX.getmethcm_ok I1 r c fun s2 I2 => ?_
  refine PySem.W.callWith_of hpl (PySem.W.keeps_M (self := Value.ref C) c.fi) (PyProof.Rows.evalArgs_kw2_nil hall (Q := fun a s₁ => PySem.W.MethP X.K s1.heap.objs.size q (Value.ref C) s₁.heap ∧ wpAny (model X.prog X.w) X.A (call (.ref s1.heap.objs.size) ([] ++ a.pos) a.kw) (EP X pins σ Q) X.xe s₁) ?_)
  refine thn (hkw.run pos _ s2 σ H1 _ I2 q1) fun ws s3 ⟨zs, H2, I3, rz, l2, q2⟩ => ⟨⟨ClX.pin_at I3, I3.kIn⟩, ?_⟩
  rw [hks]
  refine thn (Q := EP X ((s1.heap.objs.size, PySem.W.methodObj (.ref q) (.ref C)) :: pins) σ Q) ?_ fun _ _ y => ClX.unpinE y
  refine wpAny_call (PySem.W.method_call (ClX.pin_at I3) ?_)
  refine codeAny_mono (F.run X.A X.stack s3 H2 ⟨[.ref C], ks.zip ws⟩ (g [.ref C] ws) (gV [.ref C] zs) Q E (hr.mono hk) I3.env0 (b.to s3 [.ref C] ws I3.kIn rfl (rz.length.symm.trans l2)) (b.rel (.cons rfl .nil) rz) q2) fun r s' hq => ?_
  cases r with
  | error e => exact hx _ σ H2 s3 e s' I3 hq
  | ok fl =>
    cases fl with
    | ret u => exact I3.after hq
    | next => exact False.elim hq
    | brk => exact False.elim hq
    | cont => exact False.elim hq
/-- cls(..), where a slot holds the class -/
def tMakeL (i : Nat) (C : Addr) (sp : Sp) (dvs : List V) (E : XK) (t : TA) : TE := fun σ H Q => σ[i]? = some (some (.ref C)) ∧ tMake C sp dvs E t σ H Q
theorem pe_mkeL {x' : Str} (c : Mke X.prog X.w X.K X.mg X.base CX k x' sp) (hr : Room j X.A) (hk : k + 1 ≤ j) (hx : Passes CX X E) (hN : X.N[i]? = some x) (ha : PA X (e :: es) t)
    (hv : Vis X.env.scope x := by first | exact Or.inl rfl | exact Or.inr (Or.inl rfl) | exact Or.inr (Or.inr rfl)) (hdb : (x == ("__debug__" : Str)) = false := by decide) (hcd : (x == ("__classdict__" : Str)) = false := by decide)
    (he : starEach (e :: es) X.env = (false, eval e X.env) :: starEach es X.env := by rfl) (hpl : (backTo pos (starEach es X.env)).any (·.1) = false := by rfl) : PE X (.Call (.Name x p) (e :: es) [] pos) (tMakeL i (ga X.K x') sp [] E t) := by
  obtain ⟨f, fd, ps, F, M, hm, b⟩ := c
  refine ⟨fun pins s σ H Q I ⟨hs, h⟩ => ?_⟩
  refine wpAny_Call_Name_kw (thn ((pe_var (pos := p) hN hv hdb hcd).run pins s σ H (fun v H1 => v = .ref (ga X.K x') ∧ H1 = H) I ⟨_, hs, rfl, rfl⟩) fun u s1 ⟨v, H1, I1, r1, q1⟩ => ?_)
  obtain ⟨rfl, rfl⟩ := q1
  cases r1
  refine PySem.W.callWith_K (h₀ := X.base) I.ok.mod.kin M.kp (thn (ha.run pos pins s1 σ _ _ I1 h) fun us s2 ⟨vs, H2, I2, r, q⟩ => ⟨I2.kIn, ?_⟩) he hpl
  exact run_make M F (hr.mono hk) b .nil hx I2 r q
end
section
variable {σ : L2.St} {H : Hp} {Q : VK} {E : XK} {C : Addr} {sp : Sp} {ta to te : TE} {t : TA}
theorem go_cm (k : ta σ H fun x H1 => x = .ref C ∧ t σ H1 fun vs H2 => sp (.ref C :: vs) H2 Q E) : ClX.tCMeth C sp E ta t σ H Q := k
theorem go_cmx {x : V} {R : Prop} (e : x = .ref C) (k : R) : x = .ref C ∧ R := ⟨e, k⟩
theorem go_cmK {l : Nat} {gV : List V → List V → List V} (k : ta σ H fun x H1 => x = .ref C ∧ t σ H1 fun zs H2 => zs.length = l ∧ sp (gV [.ref C] zs) H2 Q E) : tCMethK C sp l gV E ta t σ H Q := k
theorem go_mkL {i : Nat} {dvs : List V} (e : σ[i]? = some (some (.ref C))) (k : tMake C sp dvs E t σ H Q) : tMakeL i C sp dvs E t σ H Q := ⟨e, k⟩
/-! ### methods of strings -/
def rM0 (r : V → List V → Hp → VK → Prop) (x : V) (H : Hp) (Q : VK) : Prop := (∃ a, x = .str a) ∧ r x [] H Q
theorem go_m0 {r : V → List V → Hp → VK → Prop} (k : to σ H fun x H1 => rM0 r x H1 Q) : L2.tM0 r to σ H Q := k
def rS0 (f : Str → V) : V → List V → Hp → VK → Prop := fun x xs H Q => ∃ a, x = .str a ∧ xs = [] ∧ True ∧ Q (f a) H
theorem go_s0 {f : Str → V} {a : Str} (k : Q (f a) H) : rM0 (rS0 f) (.str a) H Q := ⟨⟨a, rfl⟩, a, rfl, rfl, trivial, k⟩
def rM1 (r : V → List V → Hp → VK → Prop) (te : TE) (σ : L2.St) (x : V) (H : Hp) (Q : VK) : Prop := (∃ a, x = .str a) ∧ te σ H fun y H2 => r x [y] H2 Q
theorem go_m1 {r : V → List V → Hp → VK → Prop} (k : to σ H fun x H1 => rM1 r te σ x H1 Q) : L2.tM1 r to te σ H Q := k
def rM1' (r : V → List V → Hp → VK → Prop) (x y : V) (H : Hp) (Q : VK) : Prop := r x [y] H Q
theorem go_m1s {r : V → List V → Hp → VK → Prop} {a : Str} (k : te σ H fun y H2 => rM1' r (.str a) y H2 Q) : rM1 r te σ (.str a) H Q := ⟨⟨a, rfl⟩, k⟩
def rSplit : V → List V → Hp → VK → Prop := fun x xs H Q => ∃ a b, x = .str a ∧ xs = [.str b] ∧ (b.length == 0) = false ∧ a.length + 2 ≤ sizeLine ∧ L2.rNewStrs (Txt.split a b) H Q
theorem go_split {a b : Str} (hb : (b.length == 0) = false) (hl : a.length ≤ 9000000) (k : ∀ p H', H p = none → Same H H' → H' p = some (.lst ((Txt.split a b).map V.str)) → Q (.ref p) H') : rM1' rSplit (.str a) (.str b) H Q :=
  ⟨a, b, rfl, rfl, hb, Nat.le_trans (Nat.add_le_add_right hl 2) (by decide), fun p np => k p _ np (Same.new np) upd_same⟩
def rJoin (K : PySem.W.Frag) : V → List V → Hp → VK → Prop := fun x xs H Q => ∃ a p, ∃ ys : List Str, x = .str a ∧ xs = [.ref p] ∧ (SqL K H p (ys.map V.str) ∨ SqT K H p (ys.map V.str)) ∧
  (ys.map (·.length)).sum + ys.length * a.length ≤ 16777216 ∧ Q (.str (Txt.join a ys)) H
theorem go_join {K : PySem.W.Frag} {a : Str} {p : Addr} {ys : List Str} (h : SqL K H p (ys.map V.str)) (hl : (ys.map (·.length)).sum + ys.length * a.length ≤ 16777216) (k : Q (.str (Txt.join a ys)) H) : rM1' (rJoin K) (.str a) (.ref p) H Q :=
  ⟨a, p, ys, rfl, rfl, .inl h, hl, k⟩
def rLenS (xs : List V) (H : Hp) (Q : VK) : Prop := ∃ z : Str, xs = [.str z] ∧ z.length ≤ sizeLine ∧ Q (.int z.length) H
theorem go_lenS {z : Str} (hl : z.length ≤ 10000000) (k : Q (.int z.length) H) : rLenS [.str z] H Q := ⟨z, rfl, Nat.le_trans hl (by decide), k⟩
end
section
variable {X : Cx} {o e : Expr} {to te : TE} {apos pos : Pos}
theorem pe_isascii (ho : PE X o to) (hbase : attributeBase o "isascii" X.env (eval o X.env) = eval o X.env := by rfl) (hline : (apos.endLine == pos.line) = true := by rfl) : PE X (.Call (.Attribute o "isascii" apos) [] [] pos) (L2.tM0 (rS0 fun a => .bl (Txt.isascii a)) to) :=
  pe_m0 F.slot_str_isascii F.type_str_isascii mt_isascii ho hbase hline
theorem pe_isdigit (ho : PE X o to) (hbase : attributeBase o "isdigit" X.env (eval o X.env) = eval o X.env := by rfl) (hline : (apos.endLine == pos.line) = true := by rfl) : PE X (.Call (.Attribute o "isdigit" apos) [] [] pos) (L2.tM0 (rS0 fun a => .bl (Txt.isdigit a)) to) :=
  pe_m0 F.slot_str_isdigit F.type_str_isdigit mt_isdigit ho hbase hline
theorem pe_splitS (ho : PE X o to) (he : PE X e te) (hs : starEach [e] X.env = [(false, eval e X.env)] := by rfl) (hbase : attributeBase o "split" X.env (eval o X.env) = eval o X.env := by rfl) (hline : (apos.endLine == pos.line) = true := by rfl) :
    PE X (.Call (.Attribute o "split" apos) [e] [] pos) (L2.tM1 rSplit to te) := pe_split ho he hs hbase hline
theorem pe_joinS (ho : PE X o to) (he : PE X e te) (hs : starEach [e] X.env = [(false, eval e X.env)] := by rfl) (hbase : attributeBase o "join" X.env (eval o X.env) = eval o X.env := by rfl) (hline : (apos.endLine == pos.line) = true := by rfl) :
    PE X (.Call (.Attribute o "join" apos) [e] [] pos) (L2.tM1 (rJoin X.K) to te) := pe_join ho he hs hbase hline
end
/-! ### walks over texts and counted lists -/
section
variable {σ : L2.St} {H : Hp} {Q : VK} {K : PySem.W.Frag} {D : Ends} {g : TG} {tb : TS}
def rStrI (x : V) (H : Hp) (R : It → Hp → Prop) : Prop := ∃ z : Str, x = .str z ∧ R (Its z) H
theorem go_strI {tl : TE} {R : It → Hp → Prop} (k : tl σ H fun x H1 => rStrI x H1 R) : iStr tl σ H R := k
theorem go_strIx {z : Str} {R : It → Hp → Prop} (k : R (Its z) H) : rStrI (.str z) H R := ⟨z, rfl, k⟩
def rEnumI (K : PySem.W.Frag) (vs : List V) (H : Hp) (R : It → Hp → Prop) : Prop := ∃ a xs, vs = [.ref a] ∧ SqL K H a xs ∧ R (Ite K a) H
theorem go_enumI {ta : TA} {R : It → Hp → Prop} (k : ta σ H fun vs H1 => rEnumI K vs H1 R) : iEnum K ta σ H R := k
theorem go_enumIx {a : Addr} {xs : List V} {R : It → Hp → Prop} (h : SqL K H a xs) (k : R (Ite K a) H) : rEnumI K [.ref a] H R := ⟨a, xs, rfl, h, k⟩
theorem forEnum {a : Addr} {xs : List V} (Pv : Nat → St → Hp → Prop) (h0 : Pv 0 σ H) (hl : ∀ i σ H, i ≤ xs.length → Pv i σ H → SqL K H a xs)
    (hs : ∀ i x σ H T, xs[i]? = some x → Pv i σ H → H T = none → g (.ref T) σ (upd H T (.tup [.int (i : Nat), x])) fun σ2 H2 => tb { D with nx := Pv (i + 1), ct := Pv (i + 1), bk := D.nx } σ2 H2) (hd : ∀ σ H, Pv xs.length σ H → D.nx σ H) : rFor (Ite K a) g tb D σ H := by
  refine for_it walk_enum Pv h0 hl (fun i v σ H H' hi p y => ?_) hd
  obtain ⟨T, x, y', h1, h2, h3, h4, h5⟩ := y
  subst h1 h3
  cases h4
  exact hs i y' σ H T h5 p h2
/-- some signs of a text are kept -/
theorem lcStrIf {j : Nat} {z : Str} {vs : List Nat} {tt : TT} {te : TE} (c : Nat → Bool) (hn : z.length ≤ 100000) (hw : ∀ v, wipe ((wipe σ vs).set j (some v)) vs = wipe σ vs)
    (ht : ∀ (x : Nat) (H' : Hp) (Q' : Bool → Hp → Prop), x ∈ TL.tl z → Same H H' → (∀ H'', Same H' H'' → Q' (c x) H'') → tt ((wipe σ vs).set j (some (.str ⟨#[x]⟩))) H' Q')
    (hs : ∀ (x : Nat) (H' : Hp) (Q' : VK), x ∈ TL.tl z → c x = true → Same H H' → (∀ H'', Same H' H'' → Q' (.str ⟨#[x]⟩) H'') → te ((wipe σ vs).set j (some (.str ⟨#[x]⟩))) H' Q')
    (k : ∀ D H', H D = none → Same H H' → H' D = some (.lst (((TL.tl z).filter c).map fun x => V.str ⟨#[x]⟩)) → Q (.ref D) H') : rLc (Its z) (gName j) tt te vs σ H Q := by
  intro D nD
  have sz : z.cps.size = (TL.tl z).length := by simp [TL.tl]
  refine lc_it walk_str (fun i H' => Same H H' ∧ H' D = some (.lst ((((TL.tl z).take i).filter c).map fun x => V.str ⟨#[x]⟩))) ⟨Same.new nD, upd_same⟩ (fun _ _ _ _ => trivial) ?_ fun H' ⟨s, d⟩ => k D H' nD s (by rw [sz, List.take_length] at d; exact d)
  rintro i v H1 H' hi ⟨s, d⟩ ⟨rfl, x, hx, rfl⟩
  refine ⟨hw _, ?_⟩
  have hx' : (TL.tl z)[i]? = some x := by unfold TL.tl; rw [Array.getElem?_toList]; exact hx
  have hm := List.mem_of_getElem? hx'
  have step : ((TL.tl z).take (i + 1)).filter c = ((TL.tl z).take i).filter c ++ (if c x = true then [x] else []) := by
    rw [List.take_add_one, hx', List.filter_append]
    cases e : c x <;> simp [e]
  refine ht x H' _ hm s fun H1 s1 => ?_
  refine go_b (fun e => ?_) fun e => ?_
  · refine hs x H1 _ hm e (s.trans s1) fun H'' s2 => ?_
    refine ⟨_, s2 _ _ (s1 _ _ d), ?_, ?_, ?_⟩
    · rw [List.length_map]
      refine Nat.lt_of_le_of_lt (List.length_filter_le _ _) ?_
      have hz : z.length = z.cps.size := rfl
      rw [List.length_take]
      exact Nat.lt_of_lt_of_le (show min i _ < z.length by omega) (Nat.le_trans hn (by decide))
    · exact fun b o h => (upd_ne (ne_of_none h nD)).trans (s2 _ _ (s1 _ _ (s _ _ h)))
    · rw [step, if_pos e, List.map_append]
      exact upd_same
  · refine ⟨s.trans s1, ?_⟩
    rw [step, if_neg (by rw [e]; decide), List.append_nil]
    exact s1 _ _ d
end
/-! ### words that are figures -/
section
open TL NumText
theorem ascii_digit : ∀ c : Nat, c < 128 → Unicode.isDigit c = decide (48 ≤ c ∧ c ≤ 57) := by decide +kernel
theorem figs_iff (w : Str) : (Txt.isascii w && Txt.isdigit w) = true ↔ tl w ≠ [] ∧ AllDigits (tl w) := by
  unfold Txt.isascii Txt.isdigit
  rw [Bool.and_eq_true, Bool.and_eq_true, ← Array.all_toList, ← Array.all_toList, List.all_eq_true, List.all_eq_true, decide_eq_true_iff, len_tl]
  constructor
  · rintro ⟨h1, h2, h3⟩
    refine ⟨fun z => ?_, fun c hc => ?_⟩
    · rw [z] at h2
      exact absurd h2 (by decide)
    · have a := of_decide_eq_true (h1 c hc)
      have b := h3 c hc
      rw [ascii_digit c a] at b
      exact of_decide_eq_true b
  · rintro ⟨h1, h2⟩
    refine ⟨fun c hc => ?_, List.length_pos_iff.mpr h1, fun c hc => ?_⟩
    · have := h2 c hc
      exact decide_eq_true (by omega)
    · have := h2 c hc
      rw [ascii_digit c (by omega)]
      exact decide_eq_true this
theorem map_back : ∀ l : List Nat, AllDigits l → (l.map Char.ofNat).map Char.toNat = l
  | [], _ => rfl
  | c :: l, h => by
    have e : ∀ c : Nat, c < 58 → (Char.ofNat c).toNat = c := by decide
    rw [List.map_cons, List.map_cons, map_back l h.tail, e c (by have := h.head; omega)]
/-- a number without a nought ahead is what str writes -/
theorem num_back {l : List Nat} (h : AllDigits l) (hne : l ≠ []) (h0 : l = [48] ∨ l.head? ≠ some 48) : numL (digitsVal l) = l := by
  unfold numL
  obtain ⟨c, r, rfl⟩ := List.exists_cons_of_ne_nil hne
  rw [toDigits_digitsVal r.length (c :: r) rfl h ?_, map_back _ h]
  rcases h0 with h0 | h0
  · cases h0
    exact .inl rfl
  · refine .inr ⟨c, r, rfl, ?_⟩
    have := h.head
    have n : c ≠ 48 := fun z => h0 (by rw [z]; rfl)
    omega
theorem text_back {w : Str} (h : AllDigits (tl w)) (hne : tl w ≠ []) (h0 : tl w = [48] ∨ (tl w).head? ≠ some 48) : Str.ofString (toString ((digitsVal (tl w) : Nat) : Int)) = w :=
  ext_tl (by rw [tl_num, num_back h hne h0])
theorem val_ge : ∀ (l : List Nat) (a : Nat), a * 10 ^ l.length ≤ l.foldl (fun acc c => acc * 10 + (c - 48)) a
  | [], a => by simp
  | c :: l, a => by
    have := val_ge l (a * 10 + (c - 48))
    rw [List.length_cons, Nat.pow_succ, Nat.mul_comm (10 ^ l.length) 10, ← Nat.mul_assoc]
    exact Nat.le_trans (Nat.mul_le_mul_right _ (Nat.le_add_right _ _)) this
/-- a number of n figures without a nought ahead is at least 10 to n - 1 -/
theorem val_long {c : Nat} {l : List Nat} (h : 49 ≤ c) : 10 ^ l.length ≤ digitsVal (c :: l) := by
  have := val_ge l (c - 48)
  have e : digitsVal (c :: l) = l.foldl (fun acc c => acc * 10 + (c - 48)) (c - 48) := by
    show List.foldl _ _ _ = _
    rw [List.foldl_cons, Nat.zero_mul, Nat.zero_add]
  rw [e]
  exact Nat.le_trans (Nat.le_mul_of_pos_left _ (by omega)) this
end
/-- a text, n times -/
def repS (a : Str) (n : Nat) : Str := ⟨(List.replicate n a.cps).foldl (· ++ ·) #[]⟩
theorem fold_size : ∀ (n : Nat) (a acc : Array Nat), ((List.replicate n a).foldl (· ++ ·) acc).size = acc.size + n * a.size
  | 0, _, _ => by simp
  | n + 1, a, acc => by
    rw [List.replicate_succ, List.foldl_cons, fold_size n a, Array.size_append, Nat.succ_mul]
    omega
theorem repS_len (a : Str) (n : Nat) : (repS a n).length = n * a.length := by
  show ((List.replicate n a.cps).foldl (· ++ ·) #[]).size = _
  rw [fold_size]
  show 0 + _ = _
  rw [Nat.zero_add]
  rfl
def rRepS : V → V → Hp → VK → Prop := fun x y H Q => ∃ (a : Str) (n : Nat), x = .str a ∧ y = .int (n : Nat) ∧ (2 ≤ n ∧ n ≤ 5000) ∧ (0 < a.length ∧ a.length ≤ 1000) ∧ Q (.str (repS a n)) H
theorem op_repS {X : Cx} : OpR X (binaryOp .Mult) rRepS := by
  intro pins s σ H x y v u Q I rx ry h
  obtain ⟨a, n, rfl, rfl, ⟨n2, n5⟩, ⟨a0, a1⟩, q⟩ := h
  obtain ⟨t, rfl⟩ := rx
  obtain ⟨t', rfl⟩ := ry
  have hm : a.length * n ≤ 1000 * 5000 := Nat.mul_le_mul a1 n5
  have e1 : ((n : Int) == 1 || a.length == 0) = false := by
    have h1 : ((n : Int) == 1) = false := by rw [beq_eq_false_iff_ne]; omega
    have h2 : (a.length == 0) = false := by rw [beq_eq_false_iff_ne]; omega
    rw [h1, h2]
    rfl
  refine P.mul_str ?_ ?_ ?_ ?_
  · rw [decide_eq_false (by omega), decide_eq_false (by omega)]
    rfl
  · intro _ _ hc
    have : (a.length : Int) ≤ ((2 : Int) ^ 63 - 1) / (n : Int) := by
      refine (Int.le_ediv_iff_mul_le (by omega)).mpr ?_
      have hm' : (a.length : Int) * (n : Int) ≤ 1000 * 5000 := by exact_mod_cast hm
      exact Int.le_trans hm' (by decide)
    omega
  · intro _ _
    have z : ((n : Int)).toNat = n := rfl
    rw [z]
    exact decide_eq_false (Nat.not_lt.mpr (Nat.le_trans hm (by decide)))
  · rw [if_neg (by omega), if_neg (by rw [e1]; decide)]
    refine ⟨?_, .str (repS a n), H, I.tok _, ⟨_, rfl⟩, q⟩
    show (repS a n).length ≤ _
    rw [repS_len, Nat.mul_comm]
    exact Nat.le_trans hm (by decide)
theorem go_repS {H : Hp} {Q : VK} {a : Str} {i : Int} (h0 : 2 ≤ i ∧ i ≤ 5000) (h2 : 0 < a.length ∧ a.length ≤ 1000) (k : Q (.str (repS a i.toNat)) H) : rRepS (.str a) (.int i) H Q :=
  ⟨a, i.toNat, rfl, congrArg V.int (by omega), ⟨by omega, by omega⟩, h2, k⟩
end CT
namespace CT
open PySem PySem.Spec PyProof.Rows L2
open He (ga ma fAd)
open AutoSeq1 (wpAny_loadPart')
open MeetsSeq

/-! ### a dict is no text, no number, no tuple -/
theorem dq_dict_str (a : Addr) (b : Str) (u : Tok) (o : Obj) (es : Array DictEntry) (ep : Nat) (_ : o.data = .dict es ep) :
    Meets (Builtin.«dict.__eq__» ⟨[.ref a, .str b u], []⟩) (fun _ R s => s.heap.get? a = some o ∧ R (.ok (.ret .notImplemented)) s) :=
  .of_wp fun prog w A R s h => by obtain ⟨hp, g, d, tk, os⟩ := s; obtain ⟨ha, h⟩ := h; wp_walk using wpAny_loadPart' ha, wpAny_load ha; refine wpAny_of_eq (M := model prog w) (A := A.in1) F.sub_str_dict ?_; wp_walk; exact ⟨_, rfl, h⟩
theorem dq_dict_int (a : Addr) (b : Int) (u : Tok) (o : Obj) (es : Array DictEntry) (ep : Nat) (_ : o.data = .dict es ep) :
    Meets (Builtin.«dict.__eq__» ⟨[.ref a, .int b u], []⟩) (fun _ R s => s.heap.get? a = some o ∧ R (.ok (.ret .notImplemented)) s) :=
  .of_wp fun prog w A R s h => by obtain ⟨hp, g, d, tk, os⟩ := s; obtain ⟨ha, h⟩ := h; wp_walk using wpAny_loadPart' ha, wpAny_load ha; refine wpAny_of_eq (M := model prog w) (A := A.in1) F.sub_int_dict ?_; wp_walk; exact ⟨_, rfl, h⟩
theorem dq_str_dict (a : Addr) (b : Str) (u : Tok) (es : Array DictEntry) (ep : Nat) (dd : Option Addr) (sl : Array (Option Value)) :
    Meets (Builtin.«str.__eq__» ⟨[.str b u, .ref a], []⟩) (fun _ R s => s.heap.get? a = some ⟨.type "dict", dd, .dict es ep, sl⟩ ∧ R (.ok (.ret .notImplemented)) s) :=
  .of_wp fun prog w A R s h => by obtain ⟨hp, g, d, tk, os⟩ := s; obtain ⟨ha, h⟩ := h; wp_walk using wpAny_loadPart' ha, wpAny_load ha; exact ⟨_, rfl, h⟩
theorem dq_int_dict (a : Addr) (b : Int) (u : Tok) (es : Array DictEntry) (ep : Nat) (dd : Option Addr) (sl : Array (Option Value)) :
    Meets (Builtin.«int.__eq__» ⟨[.int b u, .ref a], []⟩) (fun _ R s => s.heap.get? a = some ⟨.type "dict", dd, .dict es ep, sl⟩ ∧ R (.ok (.ret .notImplemented)) s) :=
  .of_wp fun prog w A R s h => by obtain ⟨hp, g, d, tk, os⟩ := s; obtain ⟨ha, h⟩ := h; wp_walk using wpAny_loadPart' ha, wpAny_load ha; exact ⟨_, rfl, h⟩
theorem dq_tup_dict (t a : Addr) (es : Array DictEntry) (ep : Nat) (dd : Option Addr) (sl : Array (Option Value)) :
    Meets (Builtin.«tuple.__eq__» ⟨[.ref t, .ref a], []⟩) (fun _ R s => s.heap.get? a = some ⟨.type "dict", dd, .dict es ep, sl⟩ ∧ R (.ok (.ret .notImplemented)) s) :=
  .of_wp fun prog w A R s h => by obtain ⟨hp, g, d, tk, os⟩ := s; obtain ⟨ha, h⟩ := h; wp_walk using wpAny_loadPart' ha, wpAny_load ha; refine wpAny_of_eq (M := model prog w) (A := A.in1) F.sub_dict_tuple ?_; wp_walk; exact ⟨_, rfl, h⟩
theorem dq_dict_tup (a t : Addr) (o : Obj) (es : Array DictEntry) (ep : Nat) (_ : o.data = .dict es ep) (dd : Option Addr) (dt : Data) (sl : Array (Option Value)) :
    Meets (Builtin.«dict.__eq__» ⟨[.ref a, .ref t], []⟩) (fun _ R s => s.heap.get? a = some o ∧ s.heap.get? t = some ⟨.type "tuple", dd, dt, sl⟩ ∧ R (.ok (.ret .notImplemented)) s) :=
  .of_wp fun prog w A R s h => by
    obtain ⟨hp, g, d, tk, os⟩ := s; obtain ⟨ha, ht, h⟩ := h
    wp_walk using wpAny_loadPart' ha, wpAny_load ha, wpAny_loadPart' ht, wpAny_load ht
    refine wpAny_of_eq (M := model prog w) (A := A.in1) F.sub_tuple_dict ?_; wp_walk; exact ⟨_, rfl, h⟩
/-- a dict against a text, a number or a tuple -/
def rNoDict : R2 := fun x y H Q => (∃ a kvs, x = .ref a ∧ H a = some (.dK kvs)) ∧ ((∃ z, y = .str z) ∨ (∃ i, y = .int i) ∨ ∃ t xs, y = .ref t ∧ H t = some (.tup xs)) ∧ Q (.bl false) H
section
variable {X : Cx}
theorem op_noDict (hu : X.A.units < cLine) : OpR X (compareOp .Eq) rNoDict := by
  intro pins s σ H x y v u Q I rx ry h
  obtain ⟨⟨a, kvs, rfl, ha⟩, hy, q⟩ := h
  cases (show v = Value.ref a from rx)
  obtain ⟨_, _, vs, _, ⟨oc, dd, da, sl⟩, es, ep, ho, hx, hd, _⟩ := (show ObjOk X.prog X.w H s.heap a (.dK kvs) from I.hok a _ ha)
  obtain rfl : oc = Value.type "dict" := hx.1
  cases (show da = .dict es ep from hd)
  have q' : EP X pins σ Q (.bool false) s := ⟨.bl false, H, I, rfl, q⟩
  have ta : s.TypeIs (.ref a) "dict" := ⟨_, ho, rfl⟩
  show wpAny (model X.prog X.w) X.A (richCompare .Eq (.ref a) u) _ _ s
  rcases hy with ⟨z, rfl⟩ | ⟨i, rfl⟩ | ⟨t, xs, rfl, ht⟩
  · obtain ⟨k, rfl⟩ := (show ∃ k, u = Value.str z k from ry)
    exact SeqAt.rc_eq_decline_or (k := false) ta (typeIs_str s z k) (by decide) F.sub_str_dict F.slot_dict_eq F.slot_str_eq_refl
      (fun _ w => call_meets F.slot_dict_eq ta F.entry_dict_eq (F.args_dict_eq_2 _ _) (dq_dict_str a z k _ es ep rfl) ⟨ho, w⟩)
      (fun _ w => call_meets F.slot_str_eq_refl (typeIs_str s z k) F.entry_str_eq (F.args_str_eq_2 _ _) (dq_str_dict a z k es ep dd sl) ⟨ho, w⟩)
      (fun _ w => wpAny_of_eq (rfl : isSame (.ref a) (.str z k) = pure false) w) (.inr hu) q'
  · obtain ⟨k, rfl⟩ := (show ∃ k, u = Value.int i k from ry)
    exact SeqAt.rc_eq_decline_or (k := false) ta (typeIs_int s i k) (by decide) F.sub_int_dict F.slot_dict_eq F.slot_int_eq_refl
      (fun _ w => call_meets F.slot_dict_eq ta F.entry_dict_eq (F.args_dict_eq_2 _ _) (dq_dict_int a i k _ es ep rfl) ⟨ho, w⟩)
      (fun _ w => call_meets F.slot_int_eq_refl (typeIs_int s i k) F.entry_int_eq (F.args_int_eq_2 _ _) (dq_int_dict a i k es ep dd sl) ⟨ho, w⟩)
      (fun _ w => wpAny_of_eq (rfl : isSame (.ref a) (.int i k) = pure false) w) (.inr hu) q'
  · cases (show u = Value.ref t from ry)
    obtain ⟨its, _, tup, _⟩ := I.tuple (.of (K := X.K) ht)
    have tt := tup.typeIs
    obtain ⟨⟨tc, td, tda, tsl⟩, hto, htc, n, htd⟩ := tup
    obtain rfl : tc = Value.type "tuple" := htc
    have ne : (a == t) = false := by
      rw [beq_eq_false_iff_ne]
      rintro rfl
      have z : Value.type "tuple" = Value.type "dict" := congrArg Obj.cls (Option.some.inj (hto.symm.trans ho))
      exact absurd (Value.type.inj z) (by decide)
    exact SeqAt.rc_eq_decline_or (k := false) ta tt (by decide) F.sub_tuple_dict F.slot_dict_eq F.slot_tuple_eq_refl
      (fun _ w => call_meets F.slot_dict_eq ta F.entry_dict_eq (F.args_dict_eq_2 _ _) (dq_dict_tup a t _ es ep rfl td tda tsl) ⟨ho, hto, w⟩)
      (fun _ w => call_meets F.slot_tuple_eq_refl tt F.entry_tuple_eq (F.args_tuple_eq_2 _ _) (dq_tup_dict t a es ep dd sl) ⟨ho, w⟩)
      (fun _ w => by
        simp [isSame, ne]
        exact wpAny_bind (wpAny_load ho (wpAny_bind (wpAny_load hto (wpAny_pure w))))) (.inr hu) q'
end
end CT
namespace CT
open PySem PySem.Spec PyProof.Rows L2
open He (ga ma fAd)
open AutoSeq1 (wpAny_loadPart')
open MeetsSeq

/-! ### x in a list, where the items' comparisons run code of the program -/
/-- the walk through the items: P i before the i-th -/
theorem walk_in {prog : Program} {w : World} {A : Around} {R : Result → Shared → Prop} {l : Addr} {x : Value} {N : Nat} (P : Nat → Shared → Prop)
    (step : ∀ i s, P i s → ∃ (items : Array Value) (n : Nat), s.heap.get? l = some { cls := .type "list", data := .seq items n } ∧ items.size = N ∧
      ∀ (lt : i < items.size) (k : Bool → Shared → Prop), (∀ s', P (i + 1) s' → k false s') → (∀ s', R (.ok (.ret (.bool true))) s' → k true s') →
        wpAny (model prog w) A.in1 (eqBool items[i] x) k (fun e s' => R (.error e) s') s)
    (done : ∀ s, P N s → R (.ok (.ret (.bool false))) s) :
    ∀ left i : Nat, N - i = left → i ≤ N → ∀ s, P i s → wpAny (model prog w) A.in1 (Builtin.«list.__contains__.loop» ⟨[.ref l, x, rawInt i], []⟩)
      (fun fin s' => match fin with | .done f => R (.ok f) s' | .again c' => c'.quiet = true ∧ codeAny (model prog w) A c' R s') (fun e s' => R (.error e) s') s := by
  intro left
  induction left with
  | zero =>
    intro i e le s p
    obtain ⟨items, n, at_, sz, _⟩ := step i s p
    obtain rfl : i = N := by omega
    have fin := done s p
    obtain ⟨hp, g, d, tk, os⟩ := s
    wp_walk using wpAny_loadPart' at_
    rw [show items[((i : Nat) : Int).toNat]? = none from by simp [sz]]
    wp_walk
    exact fin
  | succ left ih =>
    intro i e le s p
    obtain ⟨items, n, at_, sz, st⟩ := step i s p
    have lt : i < items.size := by omega
    have st := st lt
    obtain ⟨hp, g, d, tk, os⟩ := s
    wp_walk using wpAny_loadPart' at_
    rw [show items[((i : Nat) : Int).toNat]? = some items[i] from by simp [lt]]
    refine wpAny_bind (st _ (fun s' p' => ?_) fun s' r => ?_)
    · obtain ⟨hp, g, d, tk, os⟩ := s'
      wp_walk
      rw [show ((i : Int) + 1) = ((i + 1 : Nat) : Int) from by push_cast; rfl]
      exact ⟨plainId_quiet plain_contains_loop _, codeAny_builtin entry_contains_loop (by
        rw [Around.under_plainId plain_contains_loop _]
        exact ih (i + 1) (by omega) (by omega) _ p')⟩
    · obtain ⟨hp, g, d, tk, os⟩ := s'
      wp_walk
      exact r
/-- what x in [y, ..] asks, x an instance of C, the items of built-in kinds, one after the other; p: the list, xs: all of it -/
def chIn (K : PySem.W.Frag) (C : Addr) (sp : Sp) (E : XK) (p : Addr) (xs : List V) (x : V) : List V → (Bool → Hp → Prop) → Hp → Prop
  | [], Q, H => H p = some (.lst xs) ∧ Q false H
  | y :: ys, Q, H => H p = some (.lst xs) ∧ ∃ a dx fs n, x = .ref a ∧ H a = some (.ins C dx fs) ∧ OddV H y n ∧ PySem.W.mroIn K C (.type n) = some false ∧
      sp [x, y] H (fun v H' => ∃ b, v = .bl b ∧ if b = true then Q true H' else chIn K C sp E p xs x ys Q H') E
theorem chIn.at_ {K : PySem.W.Frag} {C : Addr} {sp : Sp} {E : XK} {p : Addr} {xs : List V} {x : V} {ys : List V} {Q : Bool → Hp → Prop} {H : Hp} (h : chIn K C sp E p xs x ys Q H) : H p = some (.lst xs) := by
  cases ys <;> exact h.1
def rNotInO (K : PySem.W.Frag) (C : Addr) (sp : Sp) (E : XK) : R2 := fun x y H Q => ∃ p xs, y = .ref p ∧ chIn K C sp E p xs x xs (fun b H' => Q (.bl (!b)) H') H
section
variable {X : Cx} {CX : CXT} {j k : Nat} {C : Addr} {sp : Sp} {E : XK}
theorem op_notInO (c : Op X.prog X.w X.K X.mg X.base CX k C "__eq__" sp) (hr : Room j X.A) (hk : k + 1 ≤ j) (hx : Passes CX X E) : OpR X (compareOp .NotIn) (rNotInO X.K C sp E) := by
  obtain ⟨f, fd, ps, Fn, h1, h2, b⟩ := c
  have hr1 := (hr.mono hk).in1
  intro pins s σ H x y v u Q I rx ry h
  obtain ⟨p, xs, rfl, ch⟩ := h
  cases (show u = Value.ref p from ry)
  obtain ⟨_, its0, n0, rv0, at0⟩ := (show ObjOk X.prog X.w H s.heap p (.lst xs) from I.hok p _ ch.at_)
  -- the comparison with one item
  have one : ∀ {s : Shared} {H : Hp} {ys : List V} {y : V} {t : Value} {Qb : Bool → Hp → Prop} {k : Bool → Shared → Prop}, Inv X pins σ H s → RelV y t → chIn X.K C sp E p xs x (y :: ys) Qb H →
      (∀ s' H', Inv X pins σ H' s' → chIn X.K C sp E p xs x ys Qb H' → k false s') → (∀ s' H', Inv X pins σ H' s' → Qb true H' → k true s') →
      wpAny (model X.prog X.w) X.A.in1 (eqBool t v) k X.xe s := by
    intro s H ys y t Qb k I ry ch no yes
    obtain ⟨_, a, dx, fs, n, rfl, ha, odd, nm, q⟩ := ch
    cases (show v = Value.ref a from rx)
    obtain ⟨mA, J, _⟩ := ins_get I.hok ha
    have ni := noInst I ha nm
    have hobj := J.obj
    obtain ⟨od', J', _⟩ := J.look
    obtain ⟨m, hF⟩ := I.fr
    have ne : (t == Value.ref a) = false := by
      rw [beq_eq_false_iff_ne]
      rintro rfl
      cases odd with
      | non => cases (show Value.ref a = Value.none from ry)
      | int i => obtain ⟨_, z⟩ := ry; cases z
      | bl i => cases (show Value.ref a = Value.bool i from ry)
      | str i => obtain ⟨_, z⟩ := ry; cases z
      | lst e => cases (show Value.ref a = Value.ref _ from ry); rw [e] at ha; cases ha
      | tup e => cases (show Value.ref a = Value.ref _ from ry); rw [e] at ha; cases ha
      | dK e => cases (show Value.ref a = Value.ref _ from ry); rw [e] at ha; cases ha
    have comp : wpAny (model X.prog X.w) X.A.in1 (richCompare .Eq t (.ref a)) (fun r s' => ∃ b, r = .bool b ∧ k b s') X.xe s := by
      refine cmp_R (op := .Eq) hr1.units0 hF I.ok.mod.kin J' (decl_eq I odd ry hobj ni) nm h1 h2 ?_
      refine wpAny_mono (run_at (us := [.ref a, t]) (vs := [.ref a, y]) Fn b hr1 I.env0.in1 hx I (.cons rfl (.cons ry .nil)) q) (fun w s' z => ?_) fun _ _ x => x
      obtain ⟨z', H', I', rz, bb, rfl, qz⟩ := z
      cases (show w = Value.bool bb from rz)
      refine ⟨bb, rfl, ?_⟩
      cases bb
      · exact no s' H' I' (by simpa using qz)
      · exact yes s' H' I' (by simpa using qz)
    unfold eqBool
    refine wpAny_holding ?_
    simp only [ne, Bool.false_eq_true, if_false]
    have tail : wpAny (model X.prog X.w) X.A.in1 (do truthOfDropped (← richCompare .Eq t (.ref a))) k X.xe s :=
      wpAny_bind (wpAny_mono comp (fun r s' z => by
        obtain ⟨b, rfl, q⟩ := z
        exact wpAny_truthy_bool q) fun _ _ q => q)
    cases t <;> exact tail
  -- the walk
  have tl : s.TypeIs (.ref p) "list" := ⟨_, at0, rfl⟩
  let G : Value → Shared → Prop := fun r s' => ∃ b, r = .bool b ∧ EP X pins σ Q (.bool (!b)) s'
  let P : Nat → Shared → Prop := fun i s => ∃ H, Inv X pins σ H s ∧ chIn X.K C sp E p xs x (xs.drop i) (fun b H' => Q (.bl (!b)) H') H
  have back : ∀ (b : Bool) s' H', Inv X pins σ H' s' → Q (.bl (!b)) H' → G (.bool b) s' := fun b s' H' I' q => ⟨b, rfl, .bl (!b), H', I', rfl, q⟩
  have walk := walk_in (prog := X.prog) (w := X.w) (A := X.A) (R := wants G X.xe) (l := p) (x := v) (N := xs.length) P (fun i s h => by
      obtain ⟨H, I, ch⟩ := h
      obtain ⟨_, its, n, rv, at_⟩ := (show ObjOk X.prog X.w H s.heap p (.lst xs) from I.hok p _ ch.at_)
      refine ⟨its.toArray, n, at_, by rw [List.size_toArray, ← rv.length], fun lt k no yes => ?_⟩
      have lt' : i < xs.length := by rw [rv.length]; simpa using lt
      have dr := List.drop_eq_getElem_cons lt'
      rw [dr] at ch
      obtain ⟨t, et, ri⟩ := rv.get (List.getElem?_eq_getElem lt')
      have ei : its.toArray[i] = t := by
        have z : its.toArray[i]? = some t := by simpa using et
        exact (Array.getElem?_eq_some_iff.mp z).2
      exact one I (ei.symm ▸ ri) ch (fun s' H' I' c => no s' ⟨H', I', c⟩) fun s' H' I' q => yes s' (back true s' H' I' q))
    (fun s h => by
      obtain ⟨H, I, ch⟩ := h
      rw [List.drop_length] at ch
      exact back false s H I ch.2)
  show wpAny _ X.A (do return Value.bool (!(← contains (.ref p) v))) _ _ s
  refine wpAny_bind (wpAny_contains_slot tl F.slot_list_contains (wpAny_mono (call_meetsIn (B := Builtin.«list.__contains__») (Q := G) F.slot_list_contains tl F.entry_list_contains (F.args_list_contains_2 _ _)
    (S := fun A R s => wpAny (model X.prog X.w) A.in1 (Builtin.«list.__contains__» ⟨[.ref p, v], []⟩)
      (fun fin s' => match fin with | .done f => R (.ok f) s' | .again c' => c'.quiet = true ∧ codeAny (model X.prog X.w) A c' R s') (fun e s' => R (.error e) s') s) (fun _ _ _ h => h) ?_) (fun r s' hr => ?_) fun _ _ e => e))
  · have p0 : P 0 s := ⟨H, I, ch⟩
    have start := walk xs.length 0 (by omega) (Nat.zero_le _)
    obtain ⟨hp, g, d, tk, os⟩ := s
    wp_walk using wpAny_loadPart' at0
    exact ⟨plainId_quiet plain_contains_loop _, codeAny_builtin entry_contains_loop (by
      rw [Around.under_plainId plain_contains_loop _]
      exact start _ p0)⟩
  · obtain ⟨b, rfl, q⟩ := hr
    exact wpAny_truthy_bool (wpAny_pure q)
end
end CT
namespace CT
open PySem PySem.Spec PyProof.Rows L2
open He (ga ma fAd)

/-! ### data with dicts: flat items in lists, tuples and dicts -/
inductive Fl : V → PyData → Prop
  | non : Fl .non .none
  | bl (b : Bool) : Fl (.bl b) (.bool b)
  | int (i : Int) : Fl (.int i) (.int i)
  | str (z : Str) : Fl (.str z) (.str z)
theorem Fl.reads {h : Heap} {v : V} {d : PyData} {u : Value} (f : Fl v d) (r : RelV v u) : Reads h u d [] := by
  cases f with
  | non => cases (show u = Value.none from r); exact .none
  | bl b => cases (show u = Value.bool b from r); exact .bool b
  | int i => obtain ⟨t, rfl⟩ := (show ∃ t, u = Value.int i t from r); exact .int i t
  | str z => obtain ⟨t, rfl⟩ := (show ∃ t, u = Value.str z t from r); exact .str z t
theorem flats {h : Heap} {xs : List V} {ds : List PyData} (p : Paired Fl xs ds) : ∀ {us : List Value}, Vals xs us → ReadsAll h us ds [] := by
  induction p with
  | nil =>
    intro us r
    cases r
    exact .nil
  | cons f _ ih =>
    intro us r
    cases r with
    | cons r1 r2 => exact ReadsAll.cons (as := []) (bs := []) (f.reads r1) (ih r2)
def kD : Key → PyData
  | .inl i => .int i
  | .inr z => .str z
theorem kD_reads {h : Heap} {k : Key} {v : Value} (e : keyIs k v = true) : Reads h v (kD k) [] := by
  rcases keyIs_shape e with ⟨i, t, rfl, rfl⟩ | ⟨z, t, rfl, rfl⟩
  · exact .int i t
  · exact .str z t
inductive Dq (H : Hp) : V → PyData → Prop
  | flat {v : V} {d : PyData} (f : Fl v d) : Dq H v d
  | lst {a : Addr} {xs : List V} {ds : List PyData} (e : H a = some (.lst xs)) (p : Paired Fl xs ds) : Dq H (.ref a) (.list ds)
  | tup {a : Addr} {xs : List V} {ds : List PyData} (e : H a = some (.tup xs)) (p : Paired Fl xs ds) : Dq H (.ref a) (.tuple ds)
  | dic {a : Addr} {kvs : List (Key × V)} {ds : List (PyData × PyData)} (e : H a = some (.dK kvs))
      (p : Paired (fun (k : Key × V) (q : PyData × PyData) => q.1 = kD k.1 ∧ Fl k.2 q.2) kvs ds) : Dq H (.ref a) (.dict ds)
theorem Dq.same {H H' : Hp} {v : V} {d : PyData} (q : Dq H v d) (s : Same H H') : Dq H' v d := by
  cases q with
  | flat f => exact .flat f
  | lst e p => exact .lst (s _ _ e) p
  | tup e p => exact .tup (s _ _ e) p
  | dic e p => exact .dic (s _ _ e) p
theorem pairs_keys {P : Program} {w : World} {h : Heap} {es : List DictEntry} {vs : List (Key × Value)} (p : PySem.Pairs (mixKind P w) es vs) :
    ∀ {kvs : List (Key × V)} {ds : List (PyData × PyData)}, KV kvs vs → Paired (fun (k : Key × V) (q : PyData × PyData) => q.1 = kD k.1 ∧ Fl k.2 q.2) kvs ds →
      ReadsAll h (es.map (·.key)) (ds.map (·.1)) [] ∧ ReadsAll h (es.map (·.val)) (ds.map (·.2)) [] := by
  induction p with
  | nil =>
    intro kvs ds r q
    cases r
    cases q
    exact ⟨.nil, .nil⟩
  | cons k e _ ih =>
    intro kvs ds r q
    cases r with
    | cons r1 r2 =>
      cases q with
      | cons q1 q2 =>
        obtain ⟨m1, m2⟩ := ih r2 q2
        obtain ⟨rk, rv⟩ := r1
        obtain ⟨qk, qv⟩ := q1
        constructor
        · refine ReadsAll.cons (as := []) (bs := []) ?_ m1
          dsimp only
          rw [qk, rk]
          exact kD_reads k
        · refine ReadsAll.cons (as := []) (bs := []) ?_ m2
          dsimp only
          rw [e]
          exact qv.reads rv
theorem Dq.reads {X : Cx} {pins : List (Addr × Obj)} {σ : L2.St} {H : Hp} {s : Shared} {v : V} {d : PyData} {u : Value} (I : Inv X pins σ H s) (nm : H sysModules = none) (q : Dq H v d) (r : RelV v u) :
    ∃ as, Reads s.heap u d as ∧ sysModules ∉ as := by
  cases q with
  | flat f => exact ⟨[], f.reads r, List.not_mem_nil⟩
  | @lst a xs ds e p =>
    cases (show u = Value.ref a from r)
    obtain ⟨_, its, n, rv, at_⟩ := (show ObjOk X.prog X.w H s.heap a (.lst xs) from I.hok a _ e)
    refine ⟨_, Reads.list at_ rfl rfl (flats p (by simpa using rv)), ?_⟩
    intro z
    rcases List.mem_cons.mp z with z | z
    · rw [z, e] at nm
      cases nm
    · cases z
  | @tup a xs ds e p =>
    cases (show u = Value.ref a from r)
    obtain ⟨_, its, rv, o, at_, oc, n, od⟩ := (show ObjOk X.prog X.w H s.heap a (.tup xs) from I.hok a _ e)
    exact ⟨_, Reads.tuple at_ oc od (flats p (by simpa using rv)), List.not_mem_nil⟩
  | @dic a kvs ds e p =>
    cases (show u = Value.ref a from r)
    obtain ⟨_, sm, vs, kv, o, es, ep, ho, hx, hd, _, ps, _⟩ := (show ObjOk X.prog X.w H s.heap a (.dK kvs) from I.hok a _ e)
    obtain ⟨r1, r2⟩ := pairs_keys (h := s.heap) ps kv p
    refine ⟨_, Reads.dict ho hx.1 hd r1 r2, ?_⟩
    intro z
    have z' : sysModules = a := by simpa using z
    rw [← z'] at sm
    simp at sm
theorem Dq.all {X : Cx} {pins : List (Addr × Obj)} {σ : L2.St} {H : Hp} {s : Shared} (I : Inv X pins σ H s) (nm : H sysModules = none) {vs : List V} {ds : List PyData} (p : Paired (Dq H) vs ds) :
    ∀ {us : List Value}, Vals vs us → ∃ as, ReadsAll s.heap us ds as ∧ sysModules ∉ as := by
  induction p with
  | nil =>
    intro us r
    cases r
    exact ⟨[], .nil, List.not_mem_nil⟩
  | cons q _ ih =>
    intro us r
    cases r with
    | cons r1 r2 =>
      obtain ⟨as, h1, n1⟩ := q.reads I nm r1
      obtain ⟨bs, h2, n2⟩ := ih r2
      exact ⟨as ++ bs, .cons h1 h2, fun z => (List.mem_append.mp z).elim n1 n2⟩
/-- repr of a list of such data -/
def rReprQ : List V → Hp → VK → Prop := fun xs H Q => ∃ a vs ds, xs = [.ref a] ∧ H a = some (.lst vs) ∧ Paired (Dq H) vs ds ∧ (PyData.list ds).showable = true ∧
  (PyData.list ds).depth ≤ 60 ∧ (PyData.list ds).shown.length ≤ sizeLine ∧ Q (.str (PyData.list ds).shown) H
theorem noSys {X : Cx} {pins : List (Addr × Obj)} {σ : L2.St} {H : Hp} {s : Shared} (I : Inv X pins σ H s) (sm : (X.K.lookup sysModules).isSome = true) : H sysModules = none := by
  obtain ⟨o, e⟩ := Option.isSome_iff_exists.mp sm
  exact (I.bs _ o (I.ok.mod.kin _ o e)).2
theorem call_reprQ {X : Cx} (sm : (X.K.lookup sysModules).isSome = true) (hg : X.A.guards = some []) (hu : X.A.units + 64 < cLine) : CallR X (.builtin "repr") rReprQ := by
  intro pins s σ H xs us Q I r h
  obtain ⟨a, vs, ds, rfl, e, p, sh, dp, sz, q⟩ := h
  obtain ⟨u, rfl, ru⟩ := vals1 r
  cases (show u = Value.ref a from ru)
  have nm := noSys I sm
  obtain ⟨_, its, n, rv, at_⟩ := (show ObjOk X.prog X.w H s.heap a (.lst vs) from I.hok a _ e)
  obtain ⟨as, ra, na⟩ := Dq.all I nm p rv
  refine repr_of_reads' (Reads.list at_ rfl rfl (by simpa using ra)) sh (fun _ z => ?_) hg (by omega) (fun _ _ e => e) (fun h' tk t' k => ⟨.str _, H, I.kept k, ⟨_, rfl⟩, q⟩) sz
  rcases List.mem_cons.mp z with z | z
  · rw [z, e] at nm
    cases nm
  · exact na z

/-! ### == of such data -/
def isD : PyData → Bool
  | .dict _ => true
  | _ => false
theorem Dq.dp {K : PySem.W.Frag} {H : Hp} {v : V} {d : PyData} (q : Dq H v d) (n : isD d = false) : Dp K H v d := by
  have fl : ∀ {v : V} {d : PyData}, Fl v d → Dp K H v d := fun f => by
    cases f with
    | non => exact .non
    | bl b => exact .bl b
    | int i => exact .int i
    | str z => exact .str z
  have all : ∀ {xs : List V} {ds : List PyData}, Paired Fl xs ds → DpAll K H xs ds := fun p => by
    induction p with
    | nil => exact .nil
    | cons f _ ih => exact .cons (fl f) ih
  cases q with
  | flat f => exact fl f
  | lst e p => exact .lst (.of e) (all p)
  | tup e p => exact .tup (.of e) (all p)
  | dic e p => cases n
/-- x == x -/
def rEqQ : R2 := fun x y H Q => x = y ∧ (∃ d, Dq H x d ∧ (if isD d = true then ∃ a kvs, x = .ref a ∧ H a = some (.dK kvs) ∧ ∀ p ∈ kvs, valV kvs p.1 = some p.2 ∧ flatB p.2 = true else SeqAt.shaped d = true ∧ PyData.eqv d d = true)) ∧ Q (.bl true) H
theorem op_eqQ {X : Cx} (hu : X.A.units + 64 < cLine) : OpR X (compareOp .Eq) rEqQ := by
  intro pins s σ H x y v u Q I rx ry h
  obtain ⟨rfl, ⟨d, q, c⟩, k⟩ := h
  split at c
  · obtain ⟨a, kvs, rfl, e, all⟩ := c
    refine op_eqV hu pins s σ H _ _ v u Q I rx ry ⟨1, by decide, .inr ⟨a, a, kvs, kvs, rfl, rfl, e, e, rfl, fun p hp => ⟨p.2, (all p hp).1, .inl ⟨rfl, (all p hp).2⟩⟩⟩, k⟩
  · rename_i nd
    have nd' : isD d = false := by simpa using nd
    refine op_eqD hu pins s σ H _ _ v u Q I rx ry ⟨d, d, q.dp nd', q.dp nd', c.1, c.1, ?_⟩
    rw [c.2]
    exact k
/-- x == y, two that differ -/
def rNeQ : R2 := fun x y H Q => (∃ d e, Dq H x d ∧ Dq H y e ∧ isD e = false ∧ (if isD d = true then (∃ a kvs, x = .ref a ∧ H a = some (.dK kvs)) ∧ ((∃ z, y = .str z) ∨ (∃ i, y = .int i) ∨ ∃ t xs, y = .ref t ∧ H t = some (.tup xs))
  else SeqAt.shaped d = true ∧ SeqAt.shaped e = true ∧ PyData.eqv d e = false)) ∧ Q (.bl false) H
theorem op_neQ {X : Cx} (hu : X.A.units + 64 < cLine) : OpR X (compareOp .Eq) rNeQ := by
  intro pins s σ H x y v u Q I rx ry h
  obtain ⟨⟨d, e, q1, q2, ne, c⟩, k⟩ := h
  split at c
  · exact op_noDict (by omega) pins s σ H _ _ v u Q I rx ry ⟨c.1, c.2, k⟩
  · rename_i nd
    refine op_eqD hu pins s σ H _ _ v u Q I rx ry ⟨d, e, q1.dp (by simpa using nd), q2.dp ne, c.1, c.2.1, ?_⟩
    rw [c.2.2]
    exact k
end CT
namespace CT
open PySem PySem.Spec PyProof.Rows L2
open He (ga ma fAd)

/-! ### f(..) with defaults -/
def ClD (P : Program) (w : World) (K : PySem.W.Frag) (mg : Str → Option Value) (base : Heap) (CX : CXT) (k : Nat) (x : Str) (sp : Sp) (dvs : List V) : Prop :=
  ∃ f fd ps ds, FnOk P w K mg base CX k f fd ps sp ∧ mg x = some (.ref f) ∧ PySem.W.keepIn K (.ref f) = true ∧ Binds K fd ps ds ∧ Vals dvs ds
section
variable {X : Cx} {CX : CXT} {j k : Nat} {x : Str} {sp : Sp} {E : XK} {p pos apos : Pos} {e o : Expr} {es : List Expr} {t : TA} {to : TE} {dvs : List V}
theorem pe_fd (c : ClD X.prog X.w X.K X.mg X.base CX k x sp dvs) (hr : Room j X.A) (hk : k ≤ j) (hx : Passes CX X E) (ha : PA X (e :: es) t) (hg : Gl X x := by rfl)
    (hdb : (x == ("__debug__" : Str)) = false := by decide) (he : starEach (e :: es) X.env = (false, eval e X.env) :: starEach es X.env := by rfl)
    (hpl : (backTo pos (starEach es X.env)).any (·.1) = false := by rfl) : PE X (.Call (.Name x p) (e :: es) [] pos) (tCall sp dvs E t) := by
  obtain ⟨f, fd, ps, ds, F, hm, kp, b, v⟩ := c
  exact pe_call F (hr.mono hk) hg hm kp b v hx ha hdb he hpl
theorem pe_popk {K' : PySem.W.Frag} (hK : X.K = K') (ho : PE X o to) (ha : PA X (e :: es) t)
    (hbase : attributeBase o "pop" X.env (eval o X.env) = eval o X.env := by rfl)
    (hfew : ((backTo pos (starEach (e :: es) X.env)).all (fun x => !x.1) && (backToKw pos (keywordEach [] X.env)).all (fun x => x.1.isSome)
      && decide ((e :: es).length + ([] : List Keyword).length + (if ([] : List Keyword).isEmpty then 0 else 1) < 30)) = true := by rfl)
    (hline : (apos.endLine == pos.line) = true := by rfl) (hs : starEach (e :: es) X.env = (false, eval e X.env) :: starEach es X.env := by rfl) (hplain : (backTo pos (starEach es X.env)).any (·.1) = false := by rfl) :
    PE X (.Call (.Attribute o "pop" apos) (e :: es) [] pos) (tBM K' "list" rPopAt to t) := by
  subst hK
  exact pe_bm F.plainAttrs_list F.slot_list_pop F.type_list_pop mt_popAt ho ha hbase hfew hline hs hplain
theorem pe_joinSk {K' : PySem.W.Frag} {te : TE} (hK : X.K = K') (ho : PE X o to) (he : PE X e te) (hs : starEach [e] X.env = [(false, eval e X.env)] := by rfl) (hbase : attributeBase o "join" X.env (eval o X.env) = eval o X.env := by rfl) (hline : (apos.endLine == pos.line) = true := by rfl) :
    PE X (.Call (.Attribute o "join" apos) [e] [] pos) (L2.tM1 (rJoin K') to te) := by
  subst hK
  exact pe_join ho he hs hbase hline
theorem pe_isalpha (ho : PE X o to) (hbase : attributeBase o "isalpha" X.env (eval o X.env) = eval o X.env := by rfl) (hline : (apos.endLine == pos.line) = true := by rfl) : PE X (.Call (.Attribute o "isalpha" apos) [] [] pos) (L2.tM0 (rS0 fun a => .bl (Txt.isalpha a)) to) :=
  pe_m0 F.slot_str_isalpha F.type_str_isalpha mt_isalpha ho hbase hline
theorem pe_islower (ho : PE X o to) (hbase : attributeBase o "islower" X.env (eval o X.env) = eval o X.env := by rfl) (hline : (apos.endLine == pos.line) = true := by rfl) : PE X (.Call (.Attribute o "islower" apos) [] [] pos) (L2.tM0 (rS0 fun a => .bl (Txt.islower a)) to) :=
  pe_m0 F.slot_str_islower F.type_str_islower mt_islower ho hbase hline
end
section
variable {σ : L2.St} {H : Hp} {Q : VK} {K : PySem.W.Frag}
theorem go_calld {sp : Sp} {dvs : List V} {E : XK} {t : TA} (k : t σ H fun vs H1 => sp (vs ++ dvs) H1 Q E) : tCall sp dvs E t σ H Q := k
theorem pass_none {P : Program} {w : World} {X : Cx} : Passes (L2.CX P w) X (fun _ _ _ => False) := fun _ _ _ _ _ _ _ h => by
  obtain ⟨_, _, _, _, _, _, _, _, _, _, _, _, z⟩ := h
  exact z.elim
/-! ### xs.pop(i) -/
def rBMP (K : PySem.W.Frag) (t : TA) (σ : L2.St) (x : V) (H1 : Hp) (Q : VK) : Prop := tyV K "list" x H1 ∧ t σ H1 fun xs H2 => rPopAt x xs H2 Q
theorem go_bmp {to : TE} {t : TA} (k : to σ H fun x H1 => rBMP K t σ x H1 Q) : tBM K "list" rPopAt to t σ H Q := k
theorem go_bmpx {l : Addr} {xs : List V} {t : TA} (h : SqL K H l xs) (k : t σ H fun vs H2 => rPopAt (.ref l) vs H2 Q) : rBMP K t σ (.ref l) H Q := ⟨.inl ⟨rfl, xs, h⟩, k⟩
theorem go_popat {l : Addr} {xs : List V} {j : Nat} {y : V} (h : H l = some (.lst xs)) (hj : xs[j]? = some y) (sz : xs.length ≤ 100000) (k : ∀ H', Kp l H H' → H' l = some (.lst (xs.eraseIdx j)) → Q y H') : rPopAt (.ref l) [.int (j : Nat)] H Q := by
  have hl := (List.getElem?_eq_some_iff.mp hj).1
  refine ⟨l, xs, _, j, y, rfl, rfl, h, by omega, by omega, ?_, hj, k _ Kp.put upd_same⟩
  unfold seqIndex?
  simp
  omega
/-- a display of one text and its value -/
theorem disp1_gm {z : Str} {v : V} (k : ∀ p H', H p = none → Same H H' → H' p = some (.dK [(.inr z, v)]) → Q (.ref p) H') : tDisp [(tC (.str z), tC v)] σ H Q := by
  intro p np
  refine ⟨upd_same, [(.inr z, v)], rfl, Nat.le_of_ble_eq_true rfl, ?_⟩
  rw [show mergeK [] [((.inr z : Key), v)] = [(.inr z, v)] from rfl, upd_upd]
  exact k p _ np (Same.new np) upd_same
/-! ### a list taken apart -/
theorem go_glst {n : Nat} {t : TGs} {a : Addr} {xs : List V} {R : St → Hp → Prop} (h : SqL K H a xs) (e : xs.length = n) (k : t xs σ H R) : gLst K n t (.ref a) σ H R := ⟨a, xs, rfl, h, e, k⟩
/-! ### a place to cut -/
def tMark (t : TS) : TS := fun D σ H => t D σ H
theorem mark_R {t : TS} {D : Ends} (R : St → Hp → Prop) (h : ∀ σ' H', R σ' H' → D.nx σ' H') (k : (∀ σ' H', R σ' H' → D.nx σ' H') → t D σ H) : tMark t D σ H := k h
theorem go_unmark {t : TS} {D : Ends} (k : t D σ H) : tMark t D σ H := k
theorem ps_mark {X : Cx} {st : Stmt} {t : TS} (h : PS X st t) : PS X st (tMark t) := h
/-! ### texts put together -/
def rAddS : R2 := fun x y H Q => ∃ i j, x = .str i ∧ y = .str j ∧ i.length + j.length ≤ sizeLine ∧ Q (.str (i ++ j)) H
theorem op_addS {X : Cx} : OpR X (binaryOp .Add) rAddS := op_add_str
theorem go_adds {a b : Str} (hl : a.length + b.length ≤ 10000000) (k : Q (.str (a ++ b)) H) : rAddS (.str a) (.str b) H Q :=
  ⟨a, b, rfl, rfl, Nat.le_trans hl (by decide), k⟩
theorem go_strI' {i : Int} {R : Int → Prop} (k : R i) : ∃ j, V.int i = .int j ∧ R j := ⟨i, rfl, k⟩
/-! ### a comprehension over a range that changes what stands -/
theorem lcRangeG {j n : Nat} {vs : List Nat} {te : TE} (Pv : Addr → Nat → List V → Hp → Prop) (hn : n ≤ 100000) (hw : ∀ v, wipe ((wipe σ vs).set j (some v)) vs = wipe σ vs)
    (h0 : ∀ D H', H D = none → Same H H' → H' D = some (.lst []) → Pv D 0 [] H')
    (hs : ∀ D i acc H' (Q' : VK), i < n → H D = none → acc.length = i → Pv D i acc H' → H' D = some (.lst acc) →
      (∀ y H2, H2 D = some (.lst acc) → (∀ H3, Kp D H2 H3 → H3 D = some (.lst (acc ++ [y])) → Pv D (i + 1) (acc ++ [y]) H3) → Q' y H2) → te ((wipe σ vs).set j (some (.int i))) H' Q')
    (k : ∀ D acc H', H D = none → acc.length = n → Pv D n acc H' → H' D = some (.lst acc) → Q (.ref D) H') : rLc (Itr 0 n) (gName j) tYes te vs σ H Q := by
  intro D nD
  refine lc_range (lo := 0) (n := n) (fun i H' => ∃ acc, acc.length = i ∧ H' D = some (.lst acc) ∧ Pv D i acc H') ⟨[], rfl, upd_same, h0 D _ nD (Same.new nD) upd_same⟩ ?_ fun H' ⟨acc, e, d, p⟩ => k D acc H' nD e p d
  rintro i H' hi ⟨acc, e, d, p⟩
  refine ⟨hw _, ?_⟩
  refine go_yes ?_
  refine iteT ?_
  rw [Int.zero_add]
  refine hs D i acc H' _ hi nD e p d fun y H2 d2 g => ?_
  refine ⟨acc, d2, ?_, acc ++ [y], ?_, upd_same, g _ Kp.put upd_same⟩
  · rw [e]
    exact Nat.lt_of_lt_of_le (Nat.lt_of_lt_of_le hi hn) (by decide)
  · rw [List.length_append, e]
    rfl
theorem go_nnF {A B : Prop} (k : B) : if (!!false) = true then A else B := iteF k
theorem go_nnT {A B : Prop} (k : A) : if (!!true) = true then A else B := iteT k
theorem scal_bl {a b : Bool} (k : Q (.bl (decide (a = b))) H) : rEq (.bl a) (.bl b) H Q := by
  refine ⟨rfl, ?_⟩
  have e : decide (V.bl a = V.bl b) = decide (a = b) := decide_eq_decide.mpr ⟨fun h => by cases h; rfl, fun h => by rw [h]⟩
  rw [e]
  exact k
theorem scal_nbl {a b : Bool} (k : Q (.bl (!decide (a = b))) H) : rNe (.bl a) (.bl b) H Q := by
  refine ⟨rfl, ?_⟩
  have e : decide (V.bl a = V.bl b) = decide (a = b) := decide_eq_decide.mpr ⟨fun h => by cases h; rfl, fun h => by rw [h]⟩
  rw [e]
  exact k
end
end CT
open L2 CT
local macro_rules | `(tactic| walk_at "num") => `(tactic| (first
  | assumption
  | omega
  | exact Or.inl ⟨by omega, by omega⟩
  | exact Or.inr ⟨by omega, by omega⟩
  | exact ⟨by omega, by omega⟩
  | exact ⟨by omega, by omega, by omega⟩
  | (show (0 : Int) < _; omega)
  | exact divW (by omega) (by omega)
  | exact divV (by omega) (by omega) (by omega)
  | exact mulI (by omega) (by omega) (by omega) (by omega)
  | (show _ ∨ _; first | exact Or.inl ⟨by omega, by omega⟩ | exact Or.inr ⟨by omega, by omega⟩)
  | (show _ ∧ _; exact ⟨by omega, by omega⟩)
  | (show _ ∧ _; exact ⟨by omega, by omega, by omega⟩)))
local macro_rules | `(tactic| walk_at "bt") => `(tactic| (first
  | assumption
  | ((apply Bt.neg); (focus (walk_at "bt")))
  | ((apply Bt.mul); (focus (walk_at "bt")); (focus (walk_at "bt")))
  | ((apply Bt.add); (focus (walk_at "bt")); (focus (walk_at "bt")))
  | ((apply Bt.sub); (focus (walk_at "bt")); (focus (walk_at "bt")))
  | ((apply Bt.abs); (focus (walk_at "bt")))
  | ((apply Bt.div); (focus (walk_at "bt")); (focus (first | assumption | omega)))
  | exact Bt.of 200 (by omega) (by omega)))
local macro_rules | `(tactic| walk_at "numb") => `(tactic| (first
  | assumption
  | exact Bt.mulW (by walk_at "bt") (by walk_at "bt") (by decide)
  | exact Bt.divW (by first | assumption | omega) (by walk_at "bt") (by decide)))
local macro_rules | `(tactic| walk_at "hp") => `(tactic| (first
  | assumption
  | exact upd_same
  | ((apply same_at); (focus assumption); (focus (walk_at "hp")))
  | ((apply kp_at); (focus assumption); (focus (first | assumption | (walk_at "ne"))); (focus (walk_at "hp")))
  | ((apply xt_at); (focus assumption); (focus (walk_at "hp")); (focus (intro _ z; cases z)))
  | ((apply kx_at); (focus assumption); (focus (first | assumption | (walk_at "ne"))); (focus (walk_at "hp")); (focus (intro _ z; cases z)))
  | ((apply upd_keep); (focus assumption); (focus (walk_at "hp")))
  | ((apply upd_at); (focus assumption); (focus (walk_at "hp")))))
local macro_rules | `(tactic| walk_at "sq") => `(tactic| (first
  | assumption
  | ((apply SqL.of); (focus (walk_at "hp")))
  | ((apply SqT.of); (focus (walk_at "hp")))))
local macro_rules | `(tactic| walk_at "lk") => `(tactic| (first
  | exact lk_here
  | exact lk_nil
  | ((apply lk_skip); (focus (decide +kernel)); (focus (walk_at "lk")))
  | ((apply lk_no); (focus (decide +kernel)); (focus (walk_at "lk")))))
local macro_rules | `(tactic| walk_at "put") => `(tactic| (first
  | exact put_nil
  | exact put_here
  | ((apply put_skip); (focus (decide +kernel)); (focus (walk_at "put")))))
local macro_rules | `(tactic| walk_at "go") => `(tactic| repeat (first
  | with_reducible refine go_seq ?_
  | with_reducible refine go_asg ?_
  | ((with_reducible apply go_name); (focus (first | (dsimp only [List.set, Int.reduceToNat]; done) | (dsimp only [List.set, Int.reduceToNat]; exact rfl))))
  | with_reducible refine go_op ?_
  | ((with_reducible apply go_var); (focus (exact rfl)))
  | with_reducible refine go_c ?_
  | with_reducible refine go_cons ?_
  | with_reducible refine go_nil ?_
  | with_reducible refine go_call ?_
  | with_reducible refine go_cbLst ?_
  | with_reducible refine go_cbLen ?_
  | with_reducible refine go_cbInt ?_
  | with_reducible refine go_cbBool ?_
  | with_reducible refine go_cbAbs ?_
  | with_reducible refine go_cbMax ?_
  | with_reducible refine go_cbMin ?_
  | with_reducible refine go_cb ?_
  | with_reducible refine go_int ?_
  | with_reducible refine go_intb ?_
  | with_reducible refine go_booli ?_
  | with_reducible refine go_boolb ?_
  | with_reducible refine go_abs ?_
  | with_reducible refine go_max ?_
  | with_reducible refine go_min ?_
  | with_reducible refine go_test ?_
  | with_reducible refine go_k ?_
  | with_reducible refine go_ifS ?_
  | with_reducible refine iteT ?_
  | with_reducible refine iteF ?_
  | with_reducible refine go_nT ?_
  | with_reducible refine go_nF ?_
  | with_reducible refine go_ret ?_
  | with_reducible refine go_gcd ?_
  | with_reducible refine go_i0 ?_
  | ((with_reducible apply go_pow); (focus (walk_at "num")); (focus (first | (dsimp only [Int.reduceToNat, Int.reducePow]; done) | (dsimp only [Int.reduceToNat, Int.reducePow]; exact rfl))))
  | ((with_reducible refine go_i ?_ ?_); (focus (walk_at "num")))
  | with_reducible refine go_un ?_
  | with_reducible refine go_u ?_
  | with_reducible refine go_B ?_
  | with_reducible refine go_and ?_
  | with_reducible refine go_or ?_
  | with_reducible refine go_not ?_
  | with_reducible refine go_andV ?_
  | with_reducible refine go_orV ?_
  | with_reducible refine go_notV ?_
  | with_reducible refine go_if ?_
  | with_reducible refine go_next ?_
  | with_reducible refine go_retN ?_
  | with_reducible refine go_drop ?_
  | with_reducible refine go_lst ?_
  | with_reducible refine go_tup ?_
  | ((with_reducible refine newL_raw ?_ ?_); (focus (exact Nat.le_of_ble_eq_true rfl)))
  | ((with_reducible refine newT_raw ?_ ?_); (focus (exact Nat.le_of_ble_eq_true rfl)))
  | with_reducible refine go_fld ?_
  | ((with_reducible apply go_fldx); (focus (walk_at "hp")); (focus assumption); (focus assumption); (focus (walk_at "lk")))
  | with_reducible refine go_cval ?_
  | ((with_reducible apply go_cvalx); (focus assumption); (focus assumption))
  | with_reducible refine go_sfld ?_
  | ((with_reducible apply go_sfldx); (focus (walk_at "hp")); (focus assumption); (focus assumption); (focus (walk_at "put")); (focus (exact Nat.le_of_ble_eq_true rfl)))
  | with_reducible refine go_par ?_
  | ((with_reducible apply go_par2); (focus (first | (dsimp only [List.set, Int.reduceToNat]; done) | (dsimp only [List.set, Int.reduceToNat]; exact rfl))))
  | with_reducible refine go_sub ?_
  | ((with_reducible apply go_ixl); (focus (walk_at "sq")); (focus (exact rfl)))
  | ((with_reducible apply go_ixt); (focus (walk_at "sq")); (focus (exact rfl)))
  | ((with_reducible refine go_eq ?_ ?_); (focus (exact rfl)))
  | ((with_reducible refine go_ne ?_ ?_); (focus (exact rfl)))
  | with_reducible refine go_chain ?_
  | with_reducible refine go_yes ?_
  | with_reducible refine go_mko ?_
  | with_reducible refine go_ost ?_
  | with_reducible refine go_lc ?_
  | with_reducible refine go_make ?_
  | with_reducible refine go_maked ?_
  | with_reducible refine go_bma ?_
  | ((with_reducible apply go_bmax); (focus (walk_at "sq")))
  | with_reducible refine go_dnew ?_
  | with_reducible refine go_meth ?_
  | ((with_reducible apply go_methx); (focus (walk_at "hp")); (focus (walk_at "lk")))
  | ((with_reducible apply go_gtup); (focus (walk_at "sq")); (focus (exact rfl)))
  | with_reducible refine go_gcons ?_
  | with_reducible refine go_gnil ?_
  | with_reducible refine go_for ?_
  | with_reducible refine go_rng1 ?_
  | ((with_reducible refine go_rng1x ?_ ?_); (focus (exact ⟨by omega, by omega⟩)))
  | with_reducible refine go_rng2 ?_
  | ((with_reducible refine go_rng2x ?_ ?_); (focus (exact ⟨⟨by omega, by omega⟩, by omega, by omega⟩)))
  | with_reducible refine go_listI ?_
  | ((with_reducible apply go_listIx); (focus (walk_at "sq")))
  | with_reducible refine go_tupI ?_
  | ((with_reducible apply go_tupIx); (focus (walk_at "sq")))
  | with_reducible refine go_sl ?_
  | with_reducible refine go_part ?_
  | with_reducible refine go_i1 ?_
  | with_reducible refine go_nopart ?_
  | ((with_reducible apply go_rsl); (focus (walk_at "sq")))
  | ((with_reducible apply go_lstof); (focus (first | assumption | (apply Or.inl; (focus (walk_at "sq"))) | (apply Or.inr; (focus (walk_at "sq"))))))
  | ((with_reducible apply go_len); (focus (first | assumption | (apply Or.inl; (focus (walk_at "sq"))) | (apply Or.inr; (focus (walk_at "sq"))))))
  | ((with_reducible apply go_setL); (focus (walk_at "hp")); (focus (exact rfl)); (focus (first | (dsimp only [List.set, Int.reduceToNat]; done) | (dsimp only [List.set, Int.reduceToNat]; exact rfl))))))
local macro_rules | `(tactic| walk_at "pen") => `(tactic| (first
  | assumption
  | ((apply pn_sm); (focus assumption); (focus (walk_at "pen")))
  | ((apply pn_xt); (focus assumption); (focus (walk_at "pen")))
  | ((apply pn_kp); (focus assumption); (focus (walk_at "pen")); (focus (walk_at "ne")); (focus (walk_at "nc")))
  | ((apply pn_nw); (focus assumption); (focus (walk_at "pen")))))
local macro_rules | `(tactic| walk_at "kp") => `(tactic| (first
  | exact Kp.refl _ _
  | assumption
  | ((apply kp_sm); (focus assumption); (focus (walk_at "kp")))
  | ((apply kp_kp); (focus assumption); (focus (walk_at "kp")))
  | ((apply kp_ot); (focus assumption); (focus (walk_at "kp")); (focus (walk_at "no")))
  | exact Kp.put
  | ((apply kp_nw); (focus assumption); (focus (walk_at "kp")))))
local macro_rules | `(tactic| walk_at "kx") => `(tactic| (first
  | exact Kx.refl _ _
  | assumption
  | ((apply kx_sm); (focus assumption); (focus (walk_at "kx")))
  | ((apply kx_kp); (focus assumption); (focus (walk_at "kx")))
  | ((apply kx_kx); (focus assumption); (focus (walk_at "kx")))
  | ((apply kx_xt); (focus assumption); (focus (walk_at "kx")))
  | ((apply kx_ot); (focus assumption); (focus (walk_at "kx")); (focus (walk_at "nt")))))
local macro_rules | `(tactic| walk_at "sm") => `(tactic| (first
  | exact Same.refl _
  | assumption
  | ((apply sm_sm); (focus assumption); (focus (walk_at "sm")))
  | ((apply sm_ot); (focus assumption); (focus (walk_at "sm")); (focus (walk_at "no")))
  | ((apply sm_nw); (focus assumption); (focus (walk_at "sm")))))
local macro_rules | `(tactic| walk_at "tb") => `(tactic| (first
  | assumption
  | ((apply tabs_sm); (focus assumption); (focus (walk_at "tb")))
  | ((apply tabs_pn); (focus assumption); (focus (walk_at "pen")); (focus (walk_at "tb")))
  | ((apply tabs_ls); (focus assumption); (focus (walk_at "hp")); (focus (walk_at "tb")))))
local macro_rules | `(tactic| walk_at "od") => `(tactic| (first
  | assumption
  | ((apply odd_sm); (focus assumption); (focus (walk_at "od")))
  | ((apply odd_xt); (focus assumption); (focus (walk_at "od")))
  | ((apply odd_kp); (focus assumption); (focus (walk_at "od")); (focus (first | assumption | ((apply odd_new); (focus assumption); (focus (walk_at "od"))))))))
local macro_rules | `(tactic| walk_at "nt") => `(tactic| (first
  | assumption
  | ((apply nt_no); (focus assumption))
  | ((apply nt_sm); (focus assumption); (focus (walk_at "nt")))
  | ((apply nt_xt); (focus assumption); (focus (walk_at "nt")))
  | ((apply nt_pn); (focus assumption); (focus (walk_at "pen")); (focus (walk_at "nt")))
  | ((apply nt_kx); (focus assumption); (focus (walk_at "pen")); (focus (walk_at "nt")))
  | ((apply nt_kp); (focus assumption); (focus (walk_at "hp")); (focus (walk_at "nt")))))
local macro_rules | `(tactic| walk_at "ne") => `(tactic| (first
  | assumption
  | ((apply Ne.symm); (focus assumption))
  | ((apply pn_ne_new); (focus assumption); (focus (walk_at "pen")))
  | ((apply pn_ne_o); (focus assumption); (focus (intro _ z; cases z)); (focus (walk_at "pen")))
  | ((apply ne_old); (focus assumption); (focus (walk_at "hp")))
  | ((apply Ne.symm); (apply ne_old); (focus assumption); (focus (walk_at "hp")))
  | ((apply pn_ne_lst); (focus assumption); (focus (intro _ _ _ z; cases z)); (focus (walk_at "pen")))))
local macro_rules | `(tactic| walk_at "nc") => `(tactic| (first
  | assumption
  | ((apply pn_ne_newc); (focus assumption); (focus (walk_at "pen")))))
local macro_rules | `(tactic| walk_at "no") => `(tactic| (first
  | assumption
  | ((apply no_sm); (focus assumption); (focus (walk_at "no")))
  | ((apply no_pn); (focus assumption); (focus (walk_at "pen")); (focus (walk_at "no")))
  | ((apply no_kp); (focus assumption); (focus assumption); (focus (walk_at "no")))))
local macro_rules | `(tactic| walk_at "xt") => `(tactic| (first
  | exact LamX.ExtN.refl _
  | assumption
  | exact LamX.ExtN.of (by assumption)
  | ((apply xt_sm); (focus assumption); (focus (walk_at "xt")))
  | ((apply xt_xt); (focus assumption); (focus (walk_at "xt")))
  | ((apply xt_ot'); (focus assumption); (focus (walk_at "xt")); (focus (walk_at "nt")))))
local macro_rules | `(tactic| walk_at "gn") => `(tactic| repeat (first
  | with_reducible refine go_seq ?_
  | with_reducible refine go_asg ?_
  | ((with_reducible apply go_name); (focus (first | (dsimp only [List.set, Int.reduceToNat]; done) | (dsimp only [List.set, Int.reduceToNat]; exact rfl))))
  | with_reducible refine go_op ?_
  | ((with_reducible apply go_var); (focus (exact rfl)))
  | with_reducible refine go_c ?_
  | with_reducible refine go_cons ?_
  | with_reducible refine go_nil ?_
  | with_reducible refine go_call ?_
  | with_reducible refine go_cbLst ?_
  | with_reducible refine go_cbLen ?_
  | with_reducible refine go_cbInt ?_
  | with_reducible refine go_cbBool ?_
  | with_reducible refine go_cbAbs ?_
  | with_reducible refine go_cbMax ?_
  | with_reducible refine go_cbMin ?_
  | with_reducible refine go_cb ?_
  | with_reducible refine go_int ?_
  | with_reducible refine go_intb ?_
  | with_reducible refine go_booli ?_
  | with_reducible refine go_boolb ?_
  | with_reducible refine go_abs ?_
  | with_reducible refine go_max ?_
  | with_reducible refine go_min ?_
  | with_reducible refine go_test ?_
  | with_reducible refine go_k ?_
  | with_reducible refine go_ifS ?_
  | with_reducible refine iteT ?_
  | with_reducible refine iteF ?_
  | with_reducible refine go_nT ?_
  | with_reducible refine go_nF ?_
  | with_reducible refine go_ret ?_
  | with_reducible refine go_gcd ?_
  | with_reducible refine go_i0 ?_
  | ((with_reducible apply go_pow); (focus (walk_at "num")); (focus (first | (dsimp only [Int.reduceToNat, Int.reducePow]; done) | (dsimp only [Int.reduceToNat, Int.reducePow]; exact rfl))))
  | ((with_reducible refine go_i ?_ ?_); (focus (walk_at "num")))
  | with_reducible refine go_un ?_
  | with_reducible refine go_u ?_
  | with_reducible refine go_B ?_
  | with_reducible refine go_and ?_
  | with_reducible refine go_or ?_
  | with_reducible refine go_not ?_
  | with_reducible refine go_andV ?_
  | with_reducible refine go_orV ?_
  | with_reducible refine go_notV ?_
  | with_reducible refine go_if ?_
  | with_reducible refine go_next ?_
  | with_reducible refine go_retN ?_
  | with_reducible refine go_drop ?_
  | with_reducible refine go_lst ?_
  | with_reducible refine go_tup ?_
  | with_reducible refine go_fld ?_
  | ((with_reducible apply go_fldx); (focus (walk_at "hp")); (focus assumption); (focus assumption); (focus (walk_at "lk")))
  | with_reducible refine go_cval ?_
  | ((with_reducible apply go_cvalx); (focus assumption); (focus assumption))
  | with_reducible refine go_sfld ?_
  | ((with_reducible apply go_sfldx); (focus (walk_at "hp")); (focus assumption); (focus assumption); (focus (walk_at "put")); (focus (exact Nat.le_of_ble_eq_true rfl)))
  | with_reducible refine go_par ?_
  | ((with_reducible apply go_par2); (focus (first | (dsimp only [List.set, Int.reduceToNat]; done) | (dsimp only [List.set, Int.reduceToNat]; exact rfl))))
  | with_reducible refine go_sub ?_
  | ((with_reducible apply go_ixl); (focus (walk_at "sq")); (focus (exact rfl)))
  | ((with_reducible apply go_ixt); (focus (walk_at "sq")); (focus (exact rfl)))
  | ((with_reducible refine go_eq ?_ ?_); (focus (exact rfl)))
  | ((with_reducible refine go_ne ?_ ?_); (focus (exact rfl)))
  | with_reducible refine go_chain ?_
  | with_reducible refine go_yes ?_
  | with_reducible refine go_mko ?_
  | with_reducible refine go_ost ?_
  | with_reducible refine go_lc ?_
  | with_reducible refine go_make ?_
  | with_reducible refine go_maked ?_
  | with_reducible refine go_bma ?_
  | ((with_reducible apply go_bmax); (focus (walk_at "sq")))
  | with_reducible refine go_meth ?_
  | ((with_reducible apply go_methx); (focus (walk_at "hp")); (focus (walk_at "lk")))
  | ((with_reducible apply go_gtup); (focus (walk_at "sq")); (focus (exact rfl)))
  | with_reducible refine go_gcons ?_
  | with_reducible refine go_gnil ?_
  | with_reducible refine go_for ?_
  | with_reducible refine go_rng1 ?_
  | ((with_reducible refine go_rng1x ?_ ?_); (focus (exact ⟨by omega, by omega⟩)))
  | with_reducible refine go_rng2 ?_
  | ((with_reducible refine go_rng2x ?_ ?_); (focus (exact ⟨⟨by omega, by omega⟩, by omega, by omega⟩)))
  | with_reducible refine go_listI ?_
  | ((with_reducible apply go_listIx); (focus (walk_at "sq")))
  | with_reducible refine go_tupI ?_
  | ((with_reducible apply go_tupIx); (focus (walk_at "sq")))
  | with_reducible refine go_sl ?_
  | with_reducible refine go_part ?_
  | with_reducible refine go_i1 ?_
  | with_reducible refine go_nopart ?_
  | ((with_reducible apply go_len); (focus (first | assumption | (apply Or.inl; (focus (walk_at "sq"))) | (apply Or.inr; (focus (walk_at "sq"))))))
  | ((with_reducible apply go_setL); (focus (walk_at "hp")); (focus (exact rfl)); (focus (first | (dsimp only [List.set, Int.reduceToNat]; done) | (dsimp only [List.set, Int.reduceToNat]; exact rfl))))))
local macro_rules | `(tactic| walk_at "sz") => `(tactic| (first
  | exact Nat.le_of_ble_eq_true rfl
  | omega
  | ((simp only [List.length_append, List.length_cons, List.length_nil, List.length_map]); omega)))
local macro_rules | `(tactic| walk_at "ls") => `(tactic| (first
  | (dsimp only [Int.reduceToNat, List.replicate, List.flatten_cons, List.flatten_nil, List.cons_append, List.nil_append]; done)
  | (dsimp only [Int.reduceToNat, List.replicate, List.flatten_cons, List.flatten_nil, List.cons_append, List.nil_append]; exact rfl)
  | exact rfl))
local macro_rules | `(tactic| walk_at "gm1") => `(tactic| (first
  | with_reducible refine go_seq ?_
  | with_reducible refine go_asg ?_
  | ((with_reducible apply go_name); (focus (first | (dsimp only [List.set, Int.reduceToNat]; done) | (dsimp only [List.set, Int.reduceToNat]; exact rfl))))
  | with_reducible refine go_op ?_
  | ((with_reducible apply go_var); (focus (exact rfl)))
  | with_reducible refine go_c ?_
  | with_reducible refine go_cons ?_
  | with_reducible refine go_nil ?_
  | with_reducible refine go_call ?_
  | with_reducible refine go_calld ?_
  | with_reducible refine go_cbLst ?_
  | with_reducible refine go_cbLen ?_
  | with_reducible refine go_cbInt ?_
  | with_reducible refine go_cbBool ?_
  | with_reducible refine go_cbAbs ?_
  | with_reducible refine go_cbMax ?_
  | with_reducible refine go_cbMin ?_
  | with_reducible refine go_cb ?_
  | with_reducible refine go_int ?_
  | with_reducible refine go_intb ?_
  | with_reducible refine go_booli ?_
  | with_reducible refine go_boolb ?_
  | with_reducible refine go_abs ?_
  | with_reducible refine go_max ?_
  | with_reducible refine go_min ?_
  | with_reducible refine go_test ?_
  | with_reducible refine go_k ?_
  | with_reducible refine go_ifS ?_
  | with_reducible refine iteT ?_
  | with_reducible refine iteF ?_
  | with_reducible refine go_nT ?_
  | with_reducible refine go_nF ?_
  | with_reducible refine go_nnF ?_
  | with_reducible refine go_nnT ?_
  | with_reducible refine scal_bl ?_
  | with_reducible refine scal_nbl ?_
  | with_reducible refine go_ret ?_
  | with_reducible refine go_gcd ?_
  | with_reducible refine go_i0 ?_
  | ((with_reducible apply go_pow); (focus (walk_at "num")); (focus (first | (dsimp only [Int.reduceToNat, Int.reducePow]; done) | (dsimp only [Int.reduceToNat, Int.reducePow]; exact rfl))))
  | ((with_reducible refine go_i ?_ ?_); (focus (walk_at "num")))
  | with_reducible refine go_un ?_
  | with_reducible refine go_u ?_
  | with_reducible refine go_B ?_
  | with_reducible refine go_and ?_
  | with_reducible refine go_or ?_
  | with_reducible refine go_not ?_
  | with_reducible refine go_andV ?_
  | with_reducible refine go_orV ?_
  | with_reducible refine go_notV ?_
  | with_reducible refine go_if ?_
  | with_reducible refine go_next ?_
  | with_reducible refine go_retN ?_
  | with_reducible refine go_drop ?_
  | with_reducible refine go_lst ?_
  | with_reducible refine go_tup ?_
  | with_reducible refine go_fld ?_
  | ((with_reducible apply go_fldx); (focus (walk_at "hp")); (focus assumption); (focus assumption); (focus (walk_at "lk")))
  | with_reducible refine go_cval ?_
  | ((with_reducible apply go_cvalx); (focus assumption); (focus assumption))
  | with_reducible refine go_sfld ?_
  | ((with_reducible apply go_sfldx); (focus (walk_at "hp")); (focus assumption); (focus assumption); (focus (walk_at "put")); (focus (exact Nat.le_of_ble_eq_true rfl)))
  | with_reducible refine go_par ?_
  | ((with_reducible apply go_par2); (focus (first | (dsimp only [List.set, Int.reduceToNat]; done) | (dsimp only [List.set, Int.reduceToNat]; exact rfl))))
  | with_reducible refine go_sub ?_
  | ((with_reducible apply go_ixl); (focus (walk_at "sq")); (focus (exact rfl)))
  | ((with_reducible apply go_ixt); (focus (walk_at "sq")); (focus (exact rfl)))
  | with_reducible refine go_m0 ?_
  | with_reducible refine go_s0 ?_
  | with_reducible refine go_m1 ?_
  | with_reducible refine go_m1s ?_
  | with_reducible refine go_cm ?_
  | with_reducible refine go_cmK ?_
  | ((with_reducible refine go_cmx ?_ ?_); (focus (exact rfl)))
  | ((with_reducible apply go_mkL); (focus (exact rfl)))
  | with_reducible refine go_strI ?_
  | with_reducible refine go_strIx ?_
  | with_reducible refine go_enumI ?_
  | ((with_reducible apply go_enumIx); (focus (walk_at "sq")))
  | with_reducible refine go_eqI ?_
  | with_reducible refine go_jsc ?_
  | with_reducible refine go_jsn ?_
  | with_reducible refine go_fmt ?_
  | with_reducible refine repr_bl ?_
  | with_reducible refine go_mkK ?_
  | ((with_reducible apply go_aug); (focus (exact rfl)))
  | with_reducible refine go_methK ?_
  | ((with_reducible apply methK_x); (focus (walk_at "hp")); (focus (walk_at "lk")))
  | with_reducible refine go_kS ?_
  | ((with_reducible apply mkK_of); (focus (exact rfl)); (focus (exact rfl)); (focus (exact fun _ => rfl)))
  | ((with_reducible apply go_own1); (focus (walk_at "hp")))
  | ((with_reducible apply go_ownA); (focus (walk_at "hp")))
  | ((with_reducible apply go_ownB); (focus (walk_at "hp")))
  | ((with_reducible apply go_ownS); (focus (walk_at "hp")))
  | ((with_reducible apply go_ownN); (focus (walk_at "hp")))
  | with_reducible refine isN_ref ?_
  | with_reducible refine isN_non ?_
  | with_reducible refine isN_int ?_
  | with_reducible refine isN_str ?_
  | with_reducible refine isN_bl ?_
  | with_reducible refine notN_ref ?_
  | with_reducible refine notN_non ?_
  | with_reducible refine notN_int ?_
  | with_reducible refine notN_str ?_
  | with_reducible refine notN_bl ?_
  | with_reducible refine go_neI ?_
  | ((with_reducible refine go_eq ?_ ?_); (focus (exact rfl)))
  | ((with_reducible refine go_ne ?_ ?_); (focus (exact rfl)))
  | with_reducible refine go_chain ?_
  | with_reducible refine go_yes ?_
  | with_reducible refine go_mko ?_
  | with_reducible refine go_ost ?_
  | with_reducible refine go_lc ?_
  | with_reducible refine go_make ?_
  | with_reducible refine go_maked ?_
  | with_reducible refine go_bma ?_
  | ((with_reducible apply go_bmax); (focus (walk_at "sq")))
  | with_reducible refine go_bmp ?_
  | ((with_reducible apply go_bmpx); (focus (walk_at "sq")))
  | with_reducible refine go_meth ?_
  | ((with_reducible apply go_methx); (focus (walk_at "hp")); (focus (walk_at "lk")))
  | ((with_reducible apply go_gtup); (focus (walk_at "sq")); (focus (exact rfl)))
  | ((with_reducible apply go_glst); (focus (walk_at "sq")); (focus (exact rfl)))
  | ((with_reducible refine disp1_gm ?_); (intro _ _ _ _ _))
  | with_reducible refine go_gcons ?_
  | with_reducible refine go_gnil ?_
  | with_reducible refine go_for ?_
  | with_reducible refine go_rng1 ?_
  | ((with_reducible refine go_rng1x ?_ ?_); (focus (exact ⟨by omega, by omega⟩)))
  | with_reducible refine go_rng2 ?_
  | ((with_reducible refine go_rng2x ?_ ?_); (focus (exact ⟨⟨by omega, by omega⟩, by omega, by omega⟩)))
  | with_reducible refine go_listI ?_
  | ((with_reducible apply go_listIx); (focus (walk_at "sq")))
  | with_reducible refine go_tupI ?_
  | ((with_reducible apply go_tupIx); (focus (walk_at "sq")))
  | with_reducible refine go_sl ?_
  | with_reducible refine go_part ?_
  | with_reducible refine go_i1 ?_
  | with_reducible refine go_nopart ?_
  | ((with_reducible apply go_len); (focus (first | assumption | (apply Or.inl; (focus (walk_at "sq"))) | (apply Or.inr; (focus (walk_at "sq"))))))
  | ((with_reducible apply go_setL); (focus (walk_at "hp")); (focus (exact rfl)); (focus (first | (dsimp only [List.set, Int.reduceToNat]; done) | (dsimp only [List.set, Int.reduceToNat]; exact rfl))))
  | ((with_reducible refine newL ?_ (fun _ _ _ _ _ => ?_)); (focus (exact Nat.le_of_ble_eq_true rfl)))
  | ((with_reducible refine newT ?_ (fun _ _ _ _ _ => ?_)); (focus (exact Nat.le_of_ble_eq_true rfl)))
  | ((with_reducible apply draw_gm); (focus (walk_at "pen")); (focus omega); (focus omega); (focus omega); (intro _ _ _ _ _ _))
  | ((with_reducible apply pick_gm); (focus (walk_at "pen")); (focus omega); (focus (walk_at "hp")); (focus (walk_at "ne")); (focus (intro z; cases z)); (focus (exact Nat.le_of_ble_eq_true rfl)); (intro _ _ _ _ _))
  | ((with_reducible apply app_gm); (focus (walk_at "hp")); (focus (walk_at "sz")); (focus (walk_at "ls")); (intro _ _ _))
  | ((with_reducible apply rep_gm); (focus (walk_at "hp")); (focus (decide)); (focus (decide)); (focus (walk_at "sz")); (focus (walk_at "ls")); (intro _ _ _ _ _))
  | ((with_reducible apply cat_gm); (focus (walk_at "hp")); (focus (walk_at "hp")); (focus (walk_at "ls")); (focus (walk_at "sz")); (intro _ _ _ _ _))
  | ((with_reducible apply lstof_gm); (focus (first | assumption | (apply Or.inl; (focus (walk_at "sq"))) | (apply Or.inr; (focus (walk_at "sq"))))); (intro _ _ _ _ _))
  | ((with_reducible apply dnew_gm); (intro _ _ _ _ _))
  | ((with_reducible apply sl_gm); (focus (walk_at "sq")); (intro _ _ _ _ _))
  | ((with_reducible apply pickt_gm); (focus (walk_at "pen")); (focus omega); (focus (walk_at "hp")); (focus (walk_at "ne")); (focus (intro z; cases z)); (focus (exact Nat.le_of_ble_eq_true rfl)); (intro _ _ _ _ _))))
local macro_rules | `(tactic| walk_at "gm") => `(tactic| repeat (walk_at "gm1"))
namespace K74
open PySem PySem.Spec PyProof.Rows L2 CT
open He (ga ma fAd)
def top (i : Nat) : Stmt := PySem.Challenge.pw_creditturns_k74_promises_made_and_read.main.body.getD i (.Pass ⟨0, 0, 0, 0⟩)
abbrev s_is_integer : Stmt := top 8
theorem sc_is_integer : FnScope ["value"] ["value"] (defScope s_is_integer) := ⟨rfl, rfl, rfl, by decide +kernel, rfl, by decide +kernel, by decide +kernel⟩
abbrev s_is_within : Stmt := top 9
theorem sc_is_within : FnScope ["value", "least", "most"] ["value", "least", "most"] (defScope s_is_within) := ⟨rfl, rfl, rfl, by decide +kernel, rfl, by decide +kernel, by decide +kernel⟩
abbrev s_is_name : Stmt := top 10
theorem sc_is_name : FnScope ["value"] ["value"] (defScope s_is_name) := ⟨rfl, rfl, rfl, by decide +kernel, rfl, by decide +kernel, by decide +kernel⟩
abbrev s_is_figures : Stmt := top 12
theorem sc_is_figures : FnScope ["word"] ["word"] (defScope s_is_figures) := ⟨rfl, rfl, rfl, by decide +kernel, rfl, by decide +kernel, by decide +kernel⟩
abbrev s_tells_number : Stmt := top 13
theorem sc_tells_number : FnScope ["word", "least", "most"] ["word", "least", "most"] (defScope s_tells_number) := ⟨rfl, rfl, rfl, by decide +kernel, rfl, by decide +kernel, by decide +kernel⟩
abbrev s_Words___init__ : Stmt := inClass (top 15) 0
theorem sc_Words___init__ : FnScope ["self", "words", "start", "line"] ["self", "words", "start", "line"] (defScope s_Words___init__) := ⟨rfl, rfl, rfl, by decide +kernel, rfl, by decide +kernel, by decide +kernel⟩
abbrev s_Words_is_over : Stmt := inClass (top 15) 1
theorem sc_Words_is_over : FnScope ["self"] ["self"] (defScope s_Words_is_over) := ⟨rfl, rfl, rfl, by decide +kernel, rfl, by decide +kernel, by decide +kernel⟩
abbrev s_BadText___init__ : Stmt := inClass (top 5) 0
theorem sc_BadText___init__ : FnScope ["self", "line", "word"] ["self", "line", "word"] (defScope s_BadText___init__) := ⟨rfl, rfl, rfl, by decide +kernel, rfl, by decide +kernel, by decide +kernel⟩
abbrev s_Words_refuse : Stmt := inClass (top 15) 2
theorem sc_Words_refuse : FnScope ["self"] ["self"] (defScope s_Words_refuse) := ⟨rfl, rfl, rfl, by decide +kernel, rfl, by decide +kernel, by decide +kernel⟩
abbrev s_Words_take_number : Stmt := inClass (top 15) 8
theorem sc_Words_take_number : FnScope ["self", "least", "most"] ["self", "least", "most"] (defScope s_Words_take_number) := ⟨rfl, rfl, rfl, by decide +kernel, rfl, by decide +kernel, by decide +kernel⟩
abbrev s_Words_take_end : Stmt := inClass (top 15) 9
theorem sc_Words_take_end : FnScope ["self"] ["self"] (defScope s_Words_take_end) := ⟨rfl, rfl, rfl, by decide +kernel, rfl, by decide +kernel, by decide +kernel⟩
abbrev s_check_text : Stmt := top 14
theorem sc_check_text : FnScope ["text"] ["text"] (defScope s_check_text) := ⟨rfl, rfl, rfl, by decide +kernel, rfl, by decide +kernel, by decide +kernel⟩
abbrev s_words_of : Stmt := top 16
theorem sc_words_of : FnScope ["text", "line"] ["text", "line"] (defScope s_words_of) := ⟨rfl, rfl, rfl, by decide +kernel, rfl, by decide +kernel, by decide +kernel⟩
abbrev s_Words_take_name : Stmt := inClass (top 15) 7
theorem sc_Words_take_name : FnScope ["self", "ahead"] ["self", "ahead"] (defScope s_Words_take_name) := ⟨rfl, rfl, rfl, by decide +kernel, rfl, by decide +kernel, by decide +kernel⟩
abbrev s_BadPromise___init__ : Stmt := inClass (top 4) 0
theorem sc_BadPromise___init__ : FnScope ["self", "part"] ["self", "part"] (defScope s_BadPromise___init__) := ⟨rfl, rfl, rfl, by decide +kernel, rfl, by decide +kernel, by decide +kernel⟩
abbrev s_Promise___init__ : Stmt := inClass (top 19) 0
theorem sc_Promise___init__ : FnScope ["self", "name", "bits", "ticks"] ["self", "name", "bits", "ticks"] (defScope s_Promise___init__) := ⟨rfl, rfl, rfl, by decide +kernel, rfl, by decide +kernel, by decide +kernel⟩
abbrev s_Promise___eq__ : Stmt := inClass (top 19) 3
theorem sc_Promise___eq__ : FnScope ["self", "other"] ["self", "other"] (defScope s_Promise___eq__) := ⟨rfl, rfl, rfl, by decide +kernel, rfl, by decide +kernel, by decide +kernel⟩
abbrev s_check_promise : Stmt := top 20
theorem sc_check_promise : FnScope ["value"] ["value"] (defScope s_check_promise) := ⟨rfl, rfl, rfl, by decide +kernel, rfl, by decide +kernel, by decide +kernel⟩
abbrev s_Promise___le__ : Stmt := inClass (top 19) 2
theorem sc_Promise___le__ : FnScope ["self", "other"] ["self", "other"] (defScope s_Promise___le__) := ⟨rfl, rfl, rfl, by decide +kernel, rfl, by decide +kernel, by decide +kernel⟩
abbrev s_Promise___str__ : Stmt := inClass (top 19) 4
theorem sc_Promise___str__ : FnScope ["self"] ["self"] (defScope s_Promise___str__) := ⟨rfl, rfl, rfl, by decide +kernel, rfl, by decide +kernel, by decide +kernel⟩
abbrev s_Promise_read : Stmt := inClass (top 19) 1
theorem sc_Promise_read : FnScope ["cls", "text", "words", "name", "bits", "ticks"] ["cls", "text"] (defScope s_Promise_read) := ⟨rfl, rfl, rfl, by decide +kernel, rfl, by decide +kernel, by decide +kernel⟩
abbrev s__law_pen : Stmt := top 22
theorem sc__law_pen : FnScope ["_law_script"] ["_law_script"] (defScope s__law_pen) := ⟨rfl, rfl, rfl, by decide +kernel, rfl, by decide +kernel, by decide +kernel⟩
abbrev s__law_draw : Stmt := top 23
theorem sc__law_draw : FnScope ["_law_pen_here", "_law_many", "_law_digit", "_law_at", "_law_cell", "_law_great", "_law_mixed_here"] ["_law_pen_here", "_law_many"] (defScope s__law_draw) := ⟨rfl, rfl, rfl, by decide +kernel, rfl, by decide +kernel, by decide +kernel⟩
abbrev s__law_pick : Stmt := top 24
theorem sc__law_pick : FnScope ["_law_pen_here", "_law_some"] ["_law_pen_here", "_law_some"] (defScope s__law_pick) := ⟨rfl, rfl, rfl, by decide +kernel, rfl, by decide +kernel, by decide +kernel⟩
abbrev s__law_mixed : Stmt := top 25
theorem sc__law_mixed : FnScope ["_law_pen_here", "_law_some", "_law_left", "_law_k"] ["_law_pen_here", "_law_some"] (defScope s__law_mixed) := ⟨rfl, rfl, rfl, by decide +kernel, rfl, by decide +kernel, by decide +kernel⟩
abbrev s__law_names : Stmt := top 26
theorem sc__law_names : FnScope ["_law_pen_here", "_law_pool"] ["_law_pen_here"] (defScope s__law_names) := ⟨rfl, rfl, rfl, by decide +kernel, rfl, by decide +kernel, by decide +kernel⟩
abbrev s__law_odd : Stmt := top 27
theorem sc__law_odd : FnScope ["_law_pen_here"] ["_law_pen_here"] (defScope s__law_odd) := ⟨rfl, rfl, rfl, by decide +kernel, rfl, by decide +kernel, by decide +kernel⟩
abbrev s__law_words_right : Stmt := top 29
theorem sc__law_words_right : FnScope ["_law_pen_here", "_law_one", "_law_name", "_law_bits", "_law_ticks", "_law_way", "_law_wrong", "_law_some", "_law_word", "_law_odd_here", "_law_text", "_law_words"] ["_law_pen_here", "_law_one"] (defScope s__law_words_right) := ⟨rfl, rfl, rfl, by decide +kernel, rfl, by decide +kernel, by decide +kernel⟩
abbrev s_law : Stmt := top 30
theorem sc_law : FnScope ["_law_script", "_law_pen_here", "_law_lap", "_law_ticks", "_law_more", "_law_late", "_law_other", "_law_less", "_law_few", "_law_heard", "_law_bad", "_law_bits", "_law_name", "_law_odd_here", "_law_one", "_law_strange", "_law_wrong"] ["_law_script"] (defScope s_law) := ⟨rfl, rfl, rfl, by decide +kernel, rfl, by decide +kernel, by decide +kernel⟩
abbrev s__law_refused : Stmt := top 28
theorem sc__law_refused : FnScope ["_law_call_so", "_law_caught", "error"] ["_law_call_so"] (defScope s__law_refused) := ⟨rfl, rfl, rfl, by decide +kernel, rfl, by decide +kernel, by decide +kernel⟩
def sys : Sys := {
  fa := [.free "int", .free "isinstance", .free "bool", .free "str", .free "len", .int "MOST_LETTERS" (8), .free "list", .int "MOST_NUMBER" (1000000000000000000000000000000000000000000000000000000000000), .glo "Promise", .free "abs", .free "range", .free "max", .glo "law", .glo "is_integer", .glo "is_within", .glo "is_name", .glo "is_figures", .glo "tells_number", .glo "Words", .glo "BadText", .glo "check_text", .glo "words_of", .glo "BadPromise", .glo "check_promise", .glo "_law_pen", .glo "_law_draw", .glo "_law_pick", .glo "CreditError", .glo "_law_mixed", .glo "_law_names", .glo "_law_odd", .glo "_law_refused", .glo "_law_words_right", .noat "BadPromise" "part", .noat "BadText" "line", .noat "BadText" "word", .cls "Words", .mkr "Words", .noat "Words" "_words", .noat "Words" "_start", .noat "Words" "_line", .noat "Words" "_at", .meth "Words" "is_over", .meth "Words" "refuse", .meth "Words" "take_number", .meth "Words" "take_end", .meth "Words" "take_name", .cls "Promise", .mkr "Promise", .noat "Promise" "name", .noat "Promise" "bits", .noat "Promise" "ticks"],
  fc := [.exo "BadPromise", .exb "BadPromise", .exo "BadText", .exb "BadText", .ins "Promise", .ne "Promise", .cread "Promise", .op "Promise" "__eq__", .op "Promise" "__le__", .op "Promise" "__str__", .cmet "Promise" "read", .first "Promise" (.ty "int"), .first "Promise" (.ty "NoneType"), .first "Promise" (.ty "bool"), .first "Promise" (.ty "str"), .first "Promise" (.ty "list"), .first "Promise" (.ty "tuple"), .first "Promise" (.ty "dict"), .first "Promise" (.own "Promise"), .kit (.own "Promise") (.own "Promise") true, .kit (.own "BadPromise") (.own "BadPromise") true, .kit (.own "BadText") (.own "BadPromise") false, .kit (.own "BadText") (.own "BadText") true, .kit (.own "Promise") (.ty "str") false, .kit (.ty "int") (.own "Promise") false, .kit (.ty "NoneType") (.own "Promise") false, .kit (.ty "bool") (.own "Promise") false, .kit (.ty "str") (.own "Promise") false, .kit (.ty "list") (.own "Promise") false, .kit (.ty "tuple") (.own "Promise") false, .kit (.ty "dict") (.own "Promise") false, .exm "BadPromise" "CreditError" true, .exm "BadText" "CreditError" true],
  fn := [{ at_ := .fn "is_integer", name := "is_integer", qual := "is_integer", st := s_is_integer },
    { at_ := .fn "is_within", name := "is_within", qual := "is_within", st := s_is_within },
    { at_ := .fn "is_name", name := "is_name", qual := "is_name", st := s_is_name },
    { at_ := .fn "is_figures", name := "is_figures", qual := "is_figures", st := s_is_figures },
    { at_ := .fn "tells_number", name := "tells_number", qual := "tells_number", st := s_tells_number },
    { at_ := .me "Words" "__init__", name := "__init__", qual := "Words.__init__", st := s_Words___init__ },
    { at_ := .me "Words" "is_over", name := "is_over", qual := "Words.is_over", st := s_Words_is_over },
    { at_ := .me "BadText" "__init__", name := "__init__", qual := "BadText.__init__", st := s_BadText___init__ },
    { at_ := .me "Words" "refuse", name := "refuse", qual := "Words.refuse", st := s_Words_refuse },
    { at_ := .me "Words" "take_number", name := "take_number", qual := "Words.take_number", st := s_Words_take_number },
    { at_ := .me "Words" "take_end", name := "take_end", qual := "Words.take_end", st := s_Words_take_end },
    { at_ := .fn "check_text", name := "check_text", qual := "check_text", st := s_check_text },
    { at_ := .fn "words_of", name := "words_of", qual := "words_of", st := s_words_of, dfl := [.int (0)] },
    { at_ := .me "Words" "take_name", name := "take_name", qual := "Words.take_name", st := s_Words_take_name },
    { at_ := .me "BadPromise" "__init__", name := "__init__", qual := "BadPromise.__init__", st := s_BadPromise___init__ },
    { at_ := .me "Promise" "__init__", name := "__init__", qual := "Promise.__init__", st := s_Promise___init__ },
    { at_ := .me "Promise" "__eq__", name := "__eq__", qual := "Promise.__eq__", st := s_Promise___eq__ },
    { at_ := .fn "check_promise", name := "check_promise", qual := "check_promise", st := s_check_promise },
    { at_ := .me "Promise" "__le__", name := "__le__", qual := "Promise.__le__", st := s_Promise___le__ },
    { at_ := .me "Promise" "__str__", name := "__str__", qual := "Promise.__str__", st := s_Promise___str__ },
    { at_ := .cm "Promise" "read", name := "read", qual := "Promise.read", st := s_Promise_read },
    { at_ := .fn "_law_pen", name := "_law_pen", qual := "_law_pen", st := s__law_pen },
    { at_ := .fn "_law_draw", name := "_law_draw", qual := "_law_draw", st := s__law_draw },
    { at_ := .fn "_law_pick", name := "_law_pick", qual := "_law_pick", st := s__law_pick },
    { at_ := .fn "_law_mixed", name := "_law_mixed", qual := "_law_mixed", st := s__law_mixed },
    { at_ := .fn "_law_names", name := "_law_names", qual := "_law_names", st := s__law_names },
    { at_ := .fn "_law_odd", name := "_law_odd", qual := "_law_odd", st := s__law_odd },
    { at_ := .fn "_law_words_right", name := "_law_words_right", qual := "_law_words_right", st := s__law_words_right },
    { at_ := .fn "law", name := "law", qual := "law", st := s_law },
    { at_ := .fn "_law_refused", name := "_law_refused", qual := "_law_refused", st := s__law_refused }],
  tf := [.fn "_law_words_right", .fn "law"] }
abbrev T_all (K : PySem.W.Frag) : List (Addr × Str) := [((tabAt K (ga K "_law_words_right")).2, (envOfC "_law_words_right" (defScope s__law_words_right) 0 0 .none).qual ++ "<lambda>"), ((tabAt K (ga K "law")).2, (envOfC "law" (defScope s_law) 0 0 .none).qual ++ "<lambda>")]
theorem tall_u {K : PySem.W.Frag} {mg : Str → Option Value} (S : HD sys K mg) : ∀ p ∈ T_all K, ∀ q ∈ T_all K, p.1 = q.1 → p.2 = q.2 := apart_inj (l := T_all K) S.apart
section
variable {K : PySem.W.Frag} {mg : Str → Option Value}
theorem n_int (S : HD sys K mg) : mg "int" = none := S.free (S.fact 0)
theorem n_isinstance (S : HD sys K mg) : mg "isinstance" = none := S.free (S.fact 1)
theorem n_bool (S : HD sys K mg) : mg "bool" = none := S.free (S.fact 2)
theorem n_str (S : HD sys K mg) : mg "str" = none := S.free (S.fact 3)
theorem n_len (S : HD sys K mg) : mg "len" = none := S.free (S.fact 4)
theorem i_MOST_LETTERS (S : HD sys K mg) : ∃ t, mg "MOST_LETTERS" = some (.int 8 t) := S.int (S.fact 5)
theorem n_list (S : HD sys K mg) : mg "list" = none := S.free (S.fact 6)
theorem i_MOST_NUMBER (S : HD sys K mg) : ∃ t, mg "MOST_NUMBER" = some (.int 1000000000000000000000000000000000000000000000000000000000000 t) := S.int (S.fact 7)
theorem g_Promise (S : HD sys K mg) : mg "Promise" = some (.ref (ga K "Promise")) := S.glo (S.fact 8)
theorem n_abs (S : HD sys K mg) : mg "abs" = none := S.free (S.fact 9)
theorem n_range (S : HD sys K mg) : mg "range" = none := S.free (S.fact 10)
theorem n_max (S : HD sys K mg) : mg "max" = none := S.free (S.fact 11)
theorem g_law (S : HD sys K mg) : mg "law" = some (.ref (ga K "law")) := S.glo (S.fact 12)
theorem g_is_integer (S : HD sys K mg) : mg "is_integer" = some (.ref (ga K "is_integer")) := S.glo (S.fact 13)
theorem g_is_within (S : HD sys K mg) : mg "is_within" = some (.ref (ga K "is_within")) := S.glo (S.fact 14)
theorem g_is_name (S : HD sys K mg) : mg "is_name" = some (.ref (ga K "is_name")) := S.glo (S.fact 15)
theorem g_is_figures (S : HD sys K mg) : mg "is_figures" = some (.ref (ga K "is_figures")) := S.glo (S.fact 16)
theorem g_tells_number (S : HD sys K mg) : mg "tells_number" = some (.ref (ga K "tells_number")) := S.glo (S.fact 17)
theorem g_Words (S : HD sys K mg) : mg "Words" = some (.ref (ga K "Words")) := S.glo (S.fact 18)
theorem g_BadText (S : HD sys K mg) : mg "BadText" = some (.ref (ga K "BadText")) := S.glo (S.fact 19)
theorem g_check_text (S : HD sys K mg) : mg "check_text" = some (.ref (ga K "check_text")) := S.glo (S.fact 20)
theorem g_words_of (S : HD sys K mg) : mg "words_of" = some (.ref (ga K "words_of")) := S.glo (S.fact 21)
theorem g_BadPromise (S : HD sys K mg) : mg "BadPromise" = some (.ref (ga K "BadPromise")) := S.glo (S.fact 22)
theorem g_check_promise (S : HD sys K mg) : mg "check_promise" = some (.ref (ga K "check_promise")) := S.glo (S.fact 23)
theorem g__law_pen (S : HD sys K mg) : mg "_law_pen" = some (.ref (ga K "_law_pen")) := S.glo (S.fact 24)
theorem g__law_draw (S : HD sys K mg) : mg "_law_draw" = some (.ref (ga K "_law_draw")) := S.glo (S.fact 25)
theorem g__law_pick (S : HD sys K mg) : mg "_law_pick" = some (.ref (ga K "_law_pick")) := S.glo (S.fact 26)
theorem g_CreditError (S : HD sys K mg) : mg "CreditError" = some (.ref (ga K "CreditError")) := S.glo (S.fact 27)
theorem g__law_mixed (S : HD sys K mg) : mg "_law_mixed" = some (.ref (ga K "_law_mixed")) := S.glo (S.fact 28)
theorem g__law_names (S : HD sys K mg) : mg "_law_names" = some (.ref (ga K "_law_names")) := S.glo (S.fact 29)
theorem g__law_odd (S : HD sys K mg) : mg "_law_odd" = some (.ref (ga K "_law_odd")) := S.glo (S.fact 30)
theorem g__law_refused (S : HD sys K mg) : mg "_law_refused" = some (.ref (ga K "_law_refused")) := S.glo (S.fact 31)
theorem g__law_words_right (S : HD sys K mg) : mg "_law_words_right" = some (.ref (ga K "_law_words_right")) := S.glo (S.fact 32)
theorem exo_BadPromise (S : HD sys K mg) : ExoC K (ga K "BadPromise") (ma K (ga K "BadPromise") "__init__") := exo_f (S.fcc 0) (S.fcc 1)
theorem exb_BadPromise (S : HD sys K mg) : XfC K (ga K "BadPromise") ∧ ExcC K (ga K "BadPromise") ∧ PySem.W.typeIn K (.ref (ga K "BadPromise")) = some (.type "type") := exb_f (S.fcc 1)
theorem na_BadPromise_part (S : HD sys K mg) : NoAttr K (ga K "BadPromise") "part" := He.noat_ok (S.fact 33)
theorem exo_BadText (S : HD sys K mg) : ExoC K (ga K "BadText") (ma K (ga K "BadText") "__init__") := exo_f (S.fcc 2) (S.fcc 3)
theorem exb_BadText (S : HD sys K mg) : XfC K (ga K "BadText") ∧ ExcC K (ga K "BadText") ∧ PySem.W.typeIn K (.ref (ga K "BadText")) = some (.type "type") := exb_f (S.fcc 3)
theorem na_BadText_line (S : HD sys K mg) : NoAttr K (ga K "BadText") "line" := He.noat_ok (S.fact 34)
theorem na_BadText_word (S : HD sys K mg) : NoAttr K (ga K "BadText") "word" := He.noat_ok (S.fact 35)
theorem C_Words (S : HD sys K mg) : Cls K (ga K "Words") := He.cls_ok (S.fact 36)
theorem mk_Words (S : HD sys K mg) : Mk K (ga K "Words") (ma K (ga K "Words") "__init__") := He.mkr_ok (S.fact 37)
theorem na_Words__words (S : HD sys K mg) : NoAttr K (ga K "Words") "_words" := He.noat_ok (S.fact 38)
theorem na_Words__start (S : HD sys K mg) : NoAttr K (ga K "Words") "_start" := He.noat_ok (S.fact 39)
theorem na_Words__line (S : HD sys K mg) : NoAttr K (ga K "Words") "_line" := He.noat_ok (S.fact 40)
theorem na_Words__at (S : HD sys K mg) : NoAttr K (ga K "Words") "_at" := He.noat_ok (S.fact 41)
theorem mt_Words_is_over (S : HD sys K mg) : Meth K (ga K "Words") "is_over" (ma K (ga K "Words") "is_over") := He.meth_ok (S.fact 42)
theorem mt_Words_refuse (S : HD sys K mg) : Meth K (ga K "Words") "refuse" (ma K (ga K "Words") "refuse") := He.meth_ok (S.fact 43)
theorem mt_Words_take_number (S : HD sys K mg) : Meth K (ga K "Words") "take_number" (ma K (ga K "Words") "take_number") := He.meth_ok (S.fact 44)
theorem mt_Words_take_end (S : HD sys K mg) : Meth K (ga K "Words") "take_end" (ma K (ga K "Words") "take_end") := He.meth_ok (S.fact 45)
theorem mt_Words_take_name (S : HD sys K mg) : Meth K (ga K "Words") "take_name" (ma K (ga K "Words") "take_name") := He.meth_ok (S.fact 46)
theorem C_Promise (S : HD sys K mg) : Cls K (ga K "Promise") := He.cls_ok (S.fact 47)
theorem mk_Promise (S : HD sys K mg) : Mk K (ga K "Promise") (ma K (ga K "Promise") "__init__") := He.mkr_ok (S.fact 48)
theorem in_Promise (S : HD sys K mg) : InsC K (ga K "Promise") := ins_f (S.fcc 4) (He.cls_ok (S.fact 47))
theorem ne_Promise (S : HD sys K mg) : PySem.W.findIn K (.ref (ga K "Promise")) "__ne__" = some (some (.builtin "object.__ne__")) := ne_f (S.fcc 5)
theorem cr_Promise (S : HD sys K mg) : ClX.CRead K (ga K "Promise") (clsMc K (ga K "Promise")) := cread_f (S.fcc 6)
theorem na_Promise_name (S : HD sys K mg) : NoAttr K (ga K "Promise") "name" := He.noat_ok (S.fact 49)
theorem na_Promise_bits (S : HD sys K mg) : NoAttr K (ga K "Promise") "bits" := He.noat_ok (S.fact 50)
theorem na_Promise_ticks (S : HD sys K mg) : NoAttr K (ga K "Promise") "ticks" := He.noat_ok (S.fact 51)
theorem opf_Promise___eq__ (S : HD sys K mg) : PySem.W.findIn K (.ref (ga K "Promise")) "__eq__" = some (some (.ref (ma K (ga K "Promise") "__eq__"))) ∧ PySem.W.isFn K (.ref (ma K (ga K "Promise") "__eq__")) = true := op_f (S.fcc 7)
theorem opf_Promise___le__ (S : HD sys K mg) : PySem.W.findIn K (.ref (ga K "Promise")) "__le__" = some (some (.ref (ma K (ga K "Promise") "__le__"))) ∧ PySem.W.isFn K (.ref (ma K (ga K "Promise") "__le__")) = true := op_f (S.fcc 8)
theorem opf_Promise___str__ (S : HD sys K mg) : PySem.W.findIn K (.ref (ga K "Promise")) "__str__" = some (some (.ref (ma K (ga K "Promise") "__str__"))) ∧ PySem.W.isFn K (.ref (ma K (ga K "Promise") "__str__")) = true := op_f (S.fcc 9)
theorem cme_Promise_read (S : HD sys K mg) : ClX.CMet K (ga K "Promise") (clsMc K (ga K "Promise")) "read" (cmAt K (ga K "Promise") "read") (recHead K (cmAt K (ga K "Promise") "read") "classmethod") := cmet_f (S.fcc 10)
theorem fr_Promise_int (S : HD sys K mg) : PySem.W.notFirst K (ga K "Promise") (Nm.val K (.ty "int")) = true := first_f (S.fcc 11)
theorem fr_Promise_NoneType (S : HD sys K mg) : PySem.W.notFirst K (ga K "Promise") (Nm.val K (.ty "NoneType")) = true := first_f (S.fcc 12)
theorem fr_Promise_bool (S : HD sys K mg) : PySem.W.notFirst K (ga K "Promise") (Nm.val K (.ty "bool")) = true := first_f (S.fcc 13)
theorem fr_Promise_str (S : HD sys K mg) : PySem.W.notFirst K (ga K "Promise") (Nm.val K (.ty "str")) = true := first_f (S.fcc 14)
theorem fr_Promise_list (S : HD sys K mg) : PySem.W.notFirst K (ga K "Promise") (Nm.val K (.ty "list")) = true := first_f (S.fcc 15)
theorem fr_Promise_tuple (S : HD sys K mg) : PySem.W.notFirst K (ga K "Promise") (Nm.val K (.ty "tuple")) = true := first_f (S.fcc 16)
theorem fr_Promise_dict (S : HD sys K mg) : PySem.W.notFirst K (ga K "Promise") (Nm.val K (.ty "dict")) = true := first_f (S.fcc 17)
theorem fr_Promise_o_Promise (S : HD sys K mg) : PySem.W.notFirst K (ga K "Promise") (Nm.val K (.own "Promise")) = true := first_f (S.fcc 18)
theorem kit_o_Promise__o_Promise__true (S : HD sys K mg) : PySem.W.kitOne K (Nm.val K (.own "Promise")) (Nm.val K (.own "Promise")) = some true := kit_f (S.fcc 19)
theorem kit_o_BadPromise__o_BadPromise__true (S : HD sys K mg) : PySem.W.kitOne K (Nm.val K (.own "BadPromise")) (Nm.val K (.own "BadPromise")) = some true := kit_f (S.fcc 20)
theorem kit_o_BadText__o_BadPromise__false (S : HD sys K mg) : PySem.W.kitOne K (Nm.val K (.own "BadText")) (Nm.val K (.own "BadPromise")) = some false := kit_f (S.fcc 21)
theorem kit_o_BadText__o_BadText__true (S : HD sys K mg) : PySem.W.kitOne K (Nm.val K (.own "BadText")) (Nm.val K (.own "BadText")) = some true := kit_f (S.fcc 22)
theorem kit_o_Promise__str__false (S : HD sys K mg) : PySem.W.kitOne K (Nm.val K (.own "Promise")) (Nm.val K (.ty "str")) = some false := kit_f (S.fcc 23)
theorem kit_int__o_Promise__false (S : HD sys K mg) : PySem.W.kitOne K (Nm.val K (.ty "int")) (Nm.val K (.own "Promise")) = some false := kit_f (S.fcc 24)
theorem kit_NoneType__o_Promise__false (S : HD sys K mg) : PySem.W.kitOne K (Nm.val K (.ty "NoneType")) (Nm.val K (.own "Promise")) = some false := kit_f (S.fcc 25)
theorem kit_bool__o_Promise__false (S : HD sys K mg) : PySem.W.kitOne K (Nm.val K (.ty "bool")) (Nm.val K (.own "Promise")) = some false := kit_f (S.fcc 26)
theorem kit_str__o_Promise__false (S : HD sys K mg) : PySem.W.kitOne K (Nm.val K (.ty "str")) (Nm.val K (.own "Promise")) = some false := kit_f (S.fcc 27)
theorem kit_list__o_Promise__false (S : HD sys K mg) : PySem.W.kitOne K (Nm.val K (.ty "list")) (Nm.val K (.own "Promise")) = some false := kit_f (S.fcc 28)
theorem kit_tuple__o_Promise__false (S : HD sys K mg) : PySem.W.kitOne K (Nm.val K (.ty "tuple")) (Nm.val K (.own "Promise")) = some false := kit_f (S.fcc 29)
theorem kit_dict__o_Promise__false (S : HD sys K mg) : PySem.W.kitOne K (Nm.val K (.ty "dict")) (Nm.val K (.own "Promise")) = some false := kit_f (S.fcc 30)
theorem exm_BadPromise__CreditError__true (S : HD sys K mg) : PySem.W.exmOne K (.ref (ga K "BadPromise")) (.ref (ga K "CreditError")) = some true := exm_f (S.fcc 31)
theorem exm_BadText__CreditError__true (S : HD sys K mg) : PySem.W.exmOne K (.ref (ga K "BadText")) (.ref (ga K "CreditError")) = some true := exm_f (S.fcc 32)
theorem d_is_integer (S : HD sys K mg) : FunD K "is_integer" "is_integer" (defArgs s_is_integer) (defBody s_is_integer) (defScope s_is_integer) [] [] (Pl.adr K (.fn "is_integer")) (fdAt K (Pl.adr K (.fn "is_integer"))) := S.def_ 0
theorem b_is_integer (S : HD sys K mg) : Binds K (fdAt K (Pl.adr K (.fn "is_integer"))) ["value"] [] := (d_is_integer S).bindsN fun _ _ _ _ _ _ us hl => match us, hl with | [_], _ => rfl
theorem d_is_within (S : HD sys K mg) : FunD K "is_within" "is_within" (defArgs s_is_within) (defBody s_is_within) (defScope s_is_within) [] [] (Pl.adr K (.fn "is_within")) (fdAt K (Pl.adr K (.fn "is_within"))) := S.def_ 1
theorem b_is_within (S : HD sys K mg) : Binds K (fdAt K (Pl.adr K (.fn "is_within"))) ["value", "least", "most"] [] := (d_is_within S).bindsN fun _ _ _ _ _ _ us hl => match us, hl with | [_, _, _], _ => rfl
theorem d_is_name (S : HD sys K mg) : FunD K "is_name" "is_name" (defArgs s_is_name) (defBody s_is_name) (defScope s_is_name) [] [] (Pl.adr K (.fn "is_name")) (fdAt K (Pl.adr K (.fn "is_name"))) := S.def_ 2
theorem b_is_name (S : HD sys K mg) : Binds K (fdAt K (Pl.adr K (.fn "is_name"))) ["value"] [] := (d_is_name S).bindsN fun _ _ _ _ _ _ us hl => match us, hl with | [_], _ => rfl
theorem d_is_figures (S : HD sys K mg) : FunD K "is_figures" "is_figures" (defArgs s_is_figures) (defBody s_is_figures) (defScope s_is_figures) [] [] (Pl.adr K (.fn "is_figures")) (fdAt K (Pl.adr K (.fn "is_figures"))) := S.def_ 3
theorem b_is_figures (S : HD sys K mg) : Binds K (fdAt K (Pl.adr K (.fn "is_figures"))) ["word"] [] := (d_is_figures S).bindsN fun _ _ _ _ _ _ us hl => match us, hl with | [_], _ => rfl
theorem d_tells_number (S : HD sys K mg) : FunD K "tells_number" "tells_number" (defArgs s_tells_number) (defBody s_tells_number) (defScope s_tells_number) [] [] (Pl.adr K (.fn "tells_number")) (fdAt K (Pl.adr K (.fn "tells_number"))) := S.def_ 4
theorem b_tells_number (S : HD sys K mg) : Binds K (fdAt K (Pl.adr K (.fn "tells_number"))) ["word", "least", "most"] [] := (d_tells_number S).bindsN fun _ _ _ _ _ _ us hl => match us, hl with | [_, _, _], _ => rfl
theorem d_Words___init__ (S : HD sys K mg) : FunD K "__init__" "Words.__init__" (defArgs s_Words___init__) (defBody s_Words___init__) (defScope s_Words___init__) [] [] (Pl.adr K (.me "Words" "__init__")) (fdAt K (Pl.adr K (.me "Words" "__init__"))) := S.def_ 5
theorem b_Words___init__ (S : HD sys K mg) : Binds K (fdAt K (Pl.adr K (.me "Words" "__init__"))) ["self", "words", "start", "line"] [] := (d_Words___init__ S).bindsN fun _ _ _ _ _ _ us hl => match us, hl with | [_, _, _, _], _ => rfl
theorem d_Words_is_over (S : HD sys K mg) : FunD K "is_over" "Words.is_over" (defArgs s_Words_is_over) (defBody s_Words_is_over) (defScope s_Words_is_over) [] [] (Pl.adr K (.me "Words" "is_over")) (fdAt K (Pl.adr K (.me "Words" "is_over"))) := S.def_ 6
theorem b_Words_is_over (S : HD sys K mg) : Binds K (fdAt K (Pl.adr K (.me "Words" "is_over"))) ["self"] [] := (d_Words_is_over S).bindsN fun _ _ _ _ _ _ us hl => match us, hl with | [_], _ => rfl
theorem d_BadText___init__ (S : HD sys K mg) : FunD K "__init__" "BadText.__init__" (defArgs s_BadText___init__) (defBody s_BadText___init__) (defScope s_BadText___init__) [] [] (Pl.adr K (.me "BadText" "__init__")) (fdAt K (Pl.adr K (.me "BadText" "__init__"))) := S.def_ 7
theorem b_BadText___init__ (S : HD sys K mg) : Binds K (fdAt K (Pl.adr K (.me "BadText" "__init__"))) ["self", "line", "word"] [] := (d_BadText___init__ S).bindsN fun _ _ _ _ _ _ us hl => match us, hl with | [_, _, _], _ => rfl
theorem d_Words_refuse (S : HD sys K mg) : FunD K "refuse" "Words.refuse" (defArgs s_Words_refuse) (defBody s_Words_refuse) (defScope s_Words_refuse) [] [] (Pl.adr K (.me "Words" "refuse")) (fdAt K (Pl.adr K (.me "Words" "refuse"))) := S.def_ 8
theorem b_Words_refuse (S : HD sys K mg) : Binds K (fdAt K (Pl.adr K (.me "Words" "refuse"))) ["self"] [] := (d_Words_refuse S).bindsN fun _ _ _ _ _ _ us hl => match us, hl with | [_], _ => rfl
theorem d_Words_take_number (S : HD sys K mg) : FunD K "take_number" "Words.take_number" (defArgs s_Words_take_number) (defBody s_Words_take_number) (defScope s_Words_take_number) [] [] (Pl.adr K (.me "Words" "take_number")) (fdAt K (Pl.adr K (.me "Words" "take_number"))) := S.def_ 9
theorem b_Words_take_number (S : HD sys K mg) : Binds K (fdAt K (Pl.adr K (.me "Words" "take_number"))) ["self", "least", "most"] [] := (d_Words_take_number S).bindsN fun _ _ _ _ _ _ us hl => match us, hl with | [_, _, _], _ => rfl
theorem d_Words_take_end (S : HD sys K mg) : FunD K "take_end" "Words.take_end" (defArgs s_Words_take_end) (defBody s_Words_take_end) (defScope s_Words_take_end) [] [] (Pl.adr K (.me "Words" "take_end")) (fdAt K (Pl.adr K (.me "Words" "take_end"))) := S.def_ 10
theorem b_Words_take_end (S : HD sys K mg) : Binds K (fdAt K (Pl.adr K (.me "Words" "take_end"))) ["self"] [] := (d_Words_take_end S).bindsN fun _ _ _ _ _ _ us hl => match us, hl with | [_], _ => rfl
theorem d_check_text (S : HD sys K mg) : FunD K "check_text" "check_text" (defArgs s_check_text) (defBody s_check_text) (defScope s_check_text) [] [] (Pl.adr K (.fn "check_text")) (fdAt K (Pl.adr K (.fn "check_text"))) := S.def_ 11
theorem b_check_text (S : HD sys K mg) : Binds K (fdAt K (Pl.adr K (.fn "check_text"))) ["text"] [] := (d_check_text S).bindsN fun _ _ _ _ _ _ us hl => match us, hl with | [_], _ => rfl
theorem d_words_of (S : HD sys K mg) : FunD K "words_of" "words_of" (defArgs s_words_of) (defBody s_words_of) (defScope s_words_of) [V.int (0)] [] (Pl.adr K (.fn "words_of")) (fdAt K (Pl.adr K (.fn "words_of"))) := S.def_ 12
theorem b_words_of (S : HD sys K mg) : Binds K (fdAt K (Pl.adr K (.fn "words_of"))) ["text", "line"] [] := by
  obtain ⟨ds, v, b⟩ := (d_words_of S).binds1 (ps := ["text", "line"]) 2 1 (by intro z; cases z) rfl (fun T kV doc pm an cdv ct us its hu hi => match us, hu, its, hi with | [_, _], _, [_], _ => ⟨_, rfl, rfl⟩)
  cases v
  exact b
theorem bd_words_of_1 (S : HD sys K mg) : ∃ ds, Vals [V.int (0)] ds ∧ Binds K (fdAt K (Pl.adr K (.fn "words_of"))) ["text", "line"] ds := (d_words_of S).binds1 (ps := ["text", "line"]) 1 0 (by intro z; cases z) rfl (fun T kV doc pm an cdv ct us its hu hi => match us, hu, its, hi with | [_], _, [_], _ => ⟨_, rfl, rfl⟩)
theorem d_Words_take_name (S : HD sys K mg) : FunD K "take_name" "Words.take_name" (defArgs s_Words_take_name) (defBody s_Words_take_name) (defScope s_Words_take_name) [] [] (Pl.adr K (.me "Words" "take_name")) (fdAt K (Pl.adr K (.me "Words" "take_name"))) := S.def_ 13
theorem b_Words_take_name (S : HD sys K mg) : Binds K (fdAt K (Pl.adr K (.me "Words" "take_name"))) ["self", "ahead"] [] := (d_Words_take_name S).bindsN fun _ _ _ _ _ _ us hl => match us, hl with | [_, _], _ => rfl
theorem d_BadPromise___init__ (S : HD sys K mg) : FunD K "__init__" "BadPromise.__init__" (defArgs s_BadPromise___init__) (defBody s_BadPromise___init__) (defScope s_BadPromise___init__) [] [] (Pl.adr K (.me "BadPromise" "__init__")) (fdAt K (Pl.adr K (.me "BadPromise" "__init__"))) := S.def_ 14
theorem b_BadPromise___init__ (S : HD sys K mg) : Binds K (fdAt K (Pl.adr K (.me "BadPromise" "__init__"))) ["self", "part"] [] := (d_BadPromise___init__ S).bindsN fun _ _ _ _ _ _ us hl => match us, hl with | [_, _], _ => rfl
theorem d_Promise___init__ (S : HD sys K mg) : FunD K "__init__" "Promise.__init__" (defArgs s_Promise___init__) (defBody s_Promise___init__) (defScope s_Promise___init__) [] [] (Pl.adr K (.me "Promise" "__init__")) (fdAt K (Pl.adr K (.me "Promise" "__init__"))) := S.def_ 15
theorem b_Promise___init__ (S : HD sys K mg) : Binds K (fdAt K (Pl.adr K (.me "Promise" "__init__"))) ["self", "name", "bits", "ticks"] [] := (d_Promise___init__ S).bindsN fun _ _ _ _ _ _ us hl => match us, hl with | [_, _, _, _], _ => rfl
theorem d_Promise___eq__ (S : HD sys K mg) : FunD K "__eq__" "Promise.__eq__" (defArgs s_Promise___eq__) (defBody s_Promise___eq__) (defScope s_Promise___eq__) [] [] (Pl.adr K (.me "Promise" "__eq__")) (fdAt K (Pl.adr K (.me "Promise" "__eq__"))) := S.def_ 16
theorem b_Promise___eq__ (S : HD sys K mg) : Binds K (fdAt K (Pl.adr K (.me "Promise" "__eq__"))) ["self", "other"] [] := (d_Promise___eq__ S).bindsN fun _ _ _ _ _ _ us hl => match us, hl with | [_, _], _ => rfl
theorem d_check_promise (S : HD sys K mg) : FunD K "check_promise" "check_promise" (defArgs s_check_promise) (defBody s_check_promise) (defScope s_check_promise) [] [] (Pl.adr K (.fn "check_promise")) (fdAt K (Pl.adr K (.fn "check_promise"))) := S.def_ 17
theorem b_check_promise (S : HD sys K mg) : Binds K (fdAt K (Pl.adr K (.fn "check_promise"))) ["value"] [] := (d_check_promise S).bindsN fun _ _ _ _ _ _ us hl => match us, hl with | [_], _ => rfl
theorem d_Promise___le__ (S : HD sys K mg) : FunD K "__le__" "Promise.__le__" (defArgs s_Promise___le__) (defBody s_Promise___le__) (defScope s_Promise___le__) [] [] (Pl.adr K (.me "Promise" "__le__")) (fdAt K (Pl.adr K (.me "Promise" "__le__"))) := S.def_ 18
theorem b_Promise___le__ (S : HD sys K mg) : Binds K (fdAt K (Pl.adr K (.me "Promise" "__le__"))) ["self", "other"] [] := (d_Promise___le__ S).bindsN fun _ _ _ _ _ _ us hl => match us, hl with | [_, _], _ => rfl
theorem d_Promise___str__ (S : HD sys K mg) : FunD K "__str__" "Promise.__str__" (defArgs s_Promise___str__) (defBody s_Promise___str__) (defScope s_Promise___str__) [] [] (Pl.adr K (.me "Promise" "__str__")) (fdAt K (Pl.adr K (.me "Promise" "__str__"))) := S.def_ 19
theorem b_Promise___str__ (S : HD sys K mg) : Binds K (fdAt K (Pl.adr K (.me "Promise" "__str__"))) ["self"] [] := (d_Promise___str__ S).bindsN fun _ _ _ _ _ _ us hl => match us, hl with | [_], _ => rfl
theorem d_Promise_read (S : HD sys K mg) : FunD K "read" "Promise.read" (defArgs s_Promise_read) (defBody s_Promise_read) (defScope s_Promise_read) [] [] (Pl.adr K (.cm "Promise" "read")) (fdAt K (Pl.adr K (.cm "Promise" "read"))) := S.def_ 20
theorem b_Promise_read (S : HD sys K mg) : Binds K (fdAt K (Pl.adr K (.cm "Promise" "read"))) ["cls", "text"] [] := (d_Promise_read S).bindsN fun _ _ _ _ _ _ us hl => match us, hl with | [_, _], _ => rfl
theorem d__law_pen (S : HD sys K mg) : FunD K "_law_pen" "_law_pen" (defArgs s__law_pen) (defBody s__law_pen) (defScope s__law_pen) [] [] (Pl.adr K (.fn "_law_pen")) (fdAt K (Pl.adr K (.fn "_law_pen"))) := S.def_ 21
theorem b__law_pen (S : HD sys K mg) : Binds K (fdAt K (Pl.adr K (.fn "_law_pen"))) ["_law_script"] [] := (d__law_pen S).bindsN fun _ _ _ _ _ _ us hl => match us, hl with | [_], _ => rfl
theorem d__law_draw (S : HD sys K mg) : FunD K "_law_draw" "_law_draw" (defArgs s__law_draw) (defBody s__law_draw) (defScope s__law_draw) [] [] (Pl.adr K (.fn "_law_draw")) (fdAt K (Pl.adr K (.fn "_law_draw"))) := S.def_ 22
theorem b__law_draw (S : HD sys K mg) : Binds K (fdAt K (Pl.adr K (.fn "_law_draw"))) ["_law_pen_here", "_law_many"] [] := (d__law_draw S).bindsN fun _ _ _ _ _ _ us hl => match us, hl with | [_, _], _ => rfl
theorem d__law_pick (S : HD sys K mg) : FunD K "_law_pick" "_law_pick" (defArgs s__law_pick) (defBody s__law_pick) (defScope s__law_pick) [] [] (Pl.adr K (.fn "_law_pick")) (fdAt K (Pl.adr K (.fn "_law_pick"))) := S.def_ 23
theorem b__law_pick (S : HD sys K mg) : Binds K (fdAt K (Pl.adr K (.fn "_law_pick"))) ["_law_pen_here", "_law_some"] [] := (d__law_pick S).bindsN fun _ _ _ _ _ _ us hl => match us, hl with | [_, _], _ => rfl
theorem d__law_mixed (S : HD sys K mg) : FunD K "_law_mixed" "_law_mixed" (defArgs s__law_mixed) (defBody s__law_mixed) (defScope s__law_mixed) [] [] (Pl.adr K (.fn "_law_mixed")) (fdAt K (Pl.adr K (.fn "_law_mixed"))) := S.def_ 24
theorem b__law_mixed (S : HD sys K mg) : Binds K (fdAt K (Pl.adr K (.fn "_law_mixed"))) ["_law_pen_here", "_law_some"] [] := (d__law_mixed S).bindsN fun _ _ _ _ _ _ us hl => match us, hl with | [_, _], _ => rfl
theorem d__law_names (S : HD sys K mg) : FunD K "_law_names" "_law_names" (defArgs s__law_names) (defBody s__law_names) (defScope s__law_names) [] [] (Pl.adr K (.fn "_law_names")) (fdAt K (Pl.adr K (.fn "_law_names"))) := S.def_ 25
theorem b__law_names (S : HD sys K mg) : Binds K (fdAt K (Pl.adr K (.fn "_law_names"))) ["_law_pen_here"] [] := (d__law_names S).bindsN fun _ _ _ _ _ _ us hl => match us, hl with | [_], _ => rfl
theorem d__law_odd (S : HD sys K mg) : FunD K "_law_odd" "_law_odd" (defArgs s__law_odd) (defBody s__law_odd) (defScope s__law_odd) [] [] (Pl.adr K (.fn "_law_odd")) (fdAt K (Pl.adr K (.fn "_law_odd"))) := S.def_ 26
theorem b__law_odd (S : HD sys K mg) : Binds K (fdAt K (Pl.adr K (.fn "_law_odd"))) ["_law_pen_here"] [] := (d__law_odd S).bindsN fun _ _ _ _ _ _ us hl => match us, hl with | [_], _ => rfl
theorem d__law_words_right (S : HD sys K mg) : FunD K "_law_words_right" "_law_words_right" (defArgs s__law_words_right) (defBody s__law_words_right) (defScope s__law_words_right) [] [] (Pl.adr K (.fn "_law_words_right")) (fdAt K (Pl.adr K (.fn "_law_words_right"))) := S.def_ 27
theorem b__law_words_right (S : HD sys K mg) : Binds K (fdAt K (Pl.adr K (.fn "_law_words_right"))) ["_law_pen_here", "_law_one"] [] := (d__law_words_right S).bindsN fun _ _ _ _ _ _ us hl => match us, hl with | [_, _], _ => rfl
theorem d_law (S : HD sys K mg) : FunD K "law" "law" (defArgs s_law) (defBody s_law) (defScope s_law) [] [] (Pl.adr K (.fn "law")) (fdAt K (Pl.adr K (.fn "law"))) := S.def_ 28
theorem b_law (S : HD sys K mg) : Binds K (fdAt K (Pl.adr K (.fn "law"))) ["_law_script"] [] := (d_law S).bindsN fun _ _ _ _ _ _ us hl => match us, hl with | [_], _ => rfl
theorem d__law_refused (S : HD sys K mg) : FunD K "_law_refused" "_law_refused" (defArgs s__law_refused) (defBody s__law_refused) (defScope s__law_refused) [] [] (Pl.adr K (.fn "_law_refused")) (fdAt K (Pl.adr K (.fn "_law_refused"))) := S.def_ 29
theorem b__law_refused (S : HD sys K mg) : Binds K (fdAt K (Pl.adr K (.fn "_law_refused"))) ["_law_call_so"] [] := (d__law_refused S).bindsN fun _ _ _ _ _ _ us hl => match us, hl with | [_], _ => rfl
end
section
variable {K : PySem.W.Frag} {mg : Str → Option Value}
/-! ### checks of any value -/
def NoStr (K : PySem.W.Frag) (H : Hp) (v : V) : Prop := ∃ t : Value, TyX K H v t ∧ PySem.W.kitOne K t (.type "str") = some false
def NoInt (K : PySem.W.Frag) (H : Hp) (v : V) : Prop := ∃ (t : Value) (bi bb : Bool), TyX K H v t ∧ PySem.W.kitOne K t (.type "int") = some bi ∧ PySem.W.kitOne K t (.type "bool") = some bb ∧ (bi && !bb) = false
def spIsInt (K : PySem.W.Frag) : Sp := fun vs H Q _ => ∃ (x : V) (t : Value) (bi bb : Bool), vs = [x] ∧ TyX K H x t ∧ PySem.W.kitOne K t (.type "int") = some bi ∧ PySem.W.kitOne K t (.type "bool") = some bb ∧
  Q (.bl (bi && !bb)) H
theorem isInt_int {K : PySem.W.Frag} {H : Hp} {Q : VK} {E : XK} {i : Int} (k : Q (.bl true) H) : spIsInt K [.int i] H Q E :=
  ⟨_, _, true, false, rfl, .base (.int i), kit_ty (by decide +kernel), kit_ty (by decide +kernel), k⟩
theorem isInt_no {K : PySem.W.Frag} {H : Hp} {Q : VK} {E : XK} {v : V} (h : NoInt K H v) (k : Q (.bl false) H) : spIsInt K [v] H Q E := by
  obtain ⟨t, bi, bb, ty, k1, k2, k3⟩ := h
  refine ⟨_, _, bi, bb, rfl, ty, k1, k2, ?_⟩
  rw [k3]
  exact k
theorem fk_cl_is_integer {P : Program} {w : World} {base : Heap} (S : HD sys K mg) : FnOk P w K mg base CX0 1 (Pl.adr K (Pl.fn "is_integer")) (fdAt K (Pl.adr K (Pl.fn "is_integer"))) ["value"] (spIsInt K) := by
  refine (d_is_integer S).ok sc_is_integer (fun vs H Q E h => ?_) (fun cdv A outer s H vs Q E hr h => ?_)
  · repeat (first | (obtain ⟨rfl, _⟩ := h; rfl) | (obtain ⟨_, h⟩ := h))
  · have nd := sc_is_integer.nd
    refine ⟨_, PSs.nox ((pss_one (ps_ret (pe_and (pe_callB call_isi (by rfl) (n_isinstance S) (by decide +kernel) (pa_cons (pv 0) (pa_cons (pe_bltn (v := .ty "int") (by rfl) (n_int S) (by decide +kernel) rfl) pa_nil))) (pe_one (pe_not (pe_callB call_isi (by rfl) (n_isinstance S) (by decide +kernel) (pa_cons (pv 0) (pa_cons (pe_bltn (v := .ty "bool") (by rfl) (n_bool S) (by decide +kernel) rfl) pa_nil))))))))), ?_⟩
    try dsimp only [cxOf_K]
    obtain ⟨x, t, bi, bb, rfl, ty, k1, k2, k⟩ := h
    refine go_start (σ' := [_]) rfl ?_
    walk_at "go"
    refine go_isi (.ty "int") ty k1 ?_
    walk_at "go"
    cases bi with
    | true =>
      walk_at "go"
      refine go_isi (.ty "bool") ty k2 ?_
      walk_at "go"
      exact k
    | false =>
      walk_at "go"
      exact k
theorem cl_is_integer {P : Program} {w : World} {base : Heap} (S : HD sys K mg) : Cl P w K mg base CX0 1 "is_integer" (spIsInt K) := ⟨_, _, _, (fk_cl_is_integer S), g_is_integer S, (d_is_integer S).kp, b_is_integer S⟩
/-- an integer between two, or none -/
def spWithin (K : PySem.W.Frag) : Sp := fun vs H Q _ => ∃ (x : V) (lo hi : Int), vs = [x, .int lo, .int hi] ∧ ((∃ v : Int, x = .int v ∧ Q (.bl (decide (lo ≤ v) && decide (v ≤ hi))) H) ∨ (NoInt K H x ∧ Q (.bl false) H))
theorem fk_cl_is_within {P : Program} {w : World} {base : Heap} (S : HD sys K mg) : FnOk P w K mg base CX0 2 (Pl.adr K (Pl.fn "is_within")) (fdAt K (Pl.adr K (Pl.fn "is_within"))) ["value", "least", "most"] (spWithin K) := by
  refine (d_is_within S).ok sc_is_within (fun vs H Q E h => ?_) (fun cdv A outer s H vs Q E hr h => ?_)
  · repeat (first | (obtain ⟨rfl, _⟩ := h; rfl) | (obtain ⟨_, h⟩ := h))
  · have nd := sc_is_within.nd
    refine ⟨_, PSs.nox ((pss_one (ps_ret (pe_and (pe_f (cl_is_integer S) hr (by decide) pass0 (pa_cons (pv 0) pa_nil)) (pe_one (pe_chain op_le op_le (pv 1) (pv 0) (pv 2))))))), ?_⟩
    try dsimp only [cxOf_K]
    obtain ⟨x, lo, hi, rfl, ⟨v, rfl, k⟩ | ⟨hn, k⟩⟩ := h
    · refine go_start (σ' := [_, _, _]) rfl ?_
      walk_at "go"
      refine isInt_int ?_
      walk_at "go"
      refine go_dec (fun h1 => ?_) (fun h1 => ?_)
      · walk_at "go"
        rw [decide_eq_true h1, Bool.true_and] at k
        exact k
      · walk_at "go"
        rw [decide_eq_false h1, Bool.false_and] at k
        exact k
    · refine go_start (σ' := [_, _, _]) rfl ?_
      walk_at "go"
      refine isInt_no hn ?_
      walk_at "go"
      exact k
theorem cl_is_within {P : Program} {w : World} {base : Heap} (S : HD sys K mg) : Cl P w K mg base CX0 2 "is_within" (spWithin K) := ⟨_, _, _, (fk_cl_is_within S), g_is_within S, (d_is_within S).kp, b_is_within S⟩
theorem within_yes {H : Hp} {Q : VK} {E : XK} {v lo hi : Int} (h1 : lo ≤ v) (h2 : v ≤ hi) (k : Q (.bl true) H) : spWithin K [.int v, .int lo, .int hi] H Q E :=
  ⟨_, lo, hi, rfl, .inl ⟨v, rfl, by rw [decide_eq_true h1, decide_eq_true h2]; exact k⟩⟩
theorem within_no {H : Hp} {Q : VK} {E : XK} {x : V} {lo hi : Int} (h : (∃ v : Int, x = .int v ∧ (v < lo ∨ hi < v)) ∨ NoInt K H x) (k : Q (.bl false) H) : spWithin K [x, .int lo, .int hi] H Q E := by
  rcases h with ⟨v, rfl, h⟩ | h
  · refine ⟨_, lo, hi, rfl, .inl ⟨v, rfl, ?_⟩⟩
    have : (decide (lo ≤ v) && decide (v ≤ hi)) = false := by
      rw [Bool.and_eq_false_iff, decide_eq_false_iff_not, decide_eq_false_iff_not]
      omega
    rw [this]
    exact k
  · exact ⟨_, lo, hi, rfl, .inr ⟨h, k⟩⟩
theorem odd_noint {H : Hp} {v : V} {n : String} (h : OddV H v n) (ni : ∀ i, v ≠ .int i) : NoInt K H v := by
  have ty := h.ty (K := K)
  cases h with
  | int i => exact absurd rfl (ni i)
  | non => exact ⟨_, false, false, ty, kit_ty (by decide +kernel), kit_ty (by decide +kernel), rfl⟩
  | bl b => exact ⟨_, true, true, ty, kit_ty (by decide +kernel), kit_ty (by decide +kernel), rfl⟩
  | str s => exact ⟨_, false, false, ty, kit_ty (by decide +kernel), kit_ty (by decide +kernel), rfl⟩
  | lst e => exact ⟨_, false, false, ty, kit_ty (by decide +kernel), kit_ty (by decide +kernel), rfl⟩
  | tup e => exact ⟨_, false, false, ty, kit_ty (by decide +kernel), kit_ty (by decide +kernel), rfl⟩
  | dK e => exact ⟨_, false, false, ty, kit_ty (by decide +kernel), kit_ty (by decide +kernel), rfl⟩
theorem odd_nostr {H : Hp} {v : V} {n : String} (h : OddV H v n) (ns : ∀ z, v ≠ .str z) : NoStr K H v := by
  have ty := h.ty (K := K)
  cases h with
  | str s => exact absurd rfl (ns s)
  | non => exact ⟨_, ty, kit_ty (by decide +kernel)⟩
  | bl b => exact ⟨_, ty, kit_ty (by decide +kernel)⟩
  | int i => exact ⟨_, ty, kit_ty (by decide +kernel)⟩
  | lst e => exact ⟨_, ty, kit_ty (by decide +kernel)⟩
  | tup e => exact ⟨_, ty, kit_ty (by decide +kernel)⟩
  | dK e => exact ⟨_, ty, kit_ty (by decide +kernel)⟩
/-! ### names -/
def isName (w : Str) : Bool := decide (w.length ≤ 8) && (Txt.isascii w && (Txt.isalpha w && Txt.islower w))
def spName (K : PySem.W.Frag) : Sp := fun vs H Q _ => ∃ x : V, vs = [x] ∧ ((∃ w : Str, x = .str w ∧ w.length ≤ 1000000 ∧ Q (.bl (isName w)) H) ∨ (NoStr K H x ∧ Q (.bl false) H))
theorem fk_cl_is_name {P : Program} {w : World} {base : Heap} (S : HD sys K mg) : FnOk P w K mg base CX0 1 (Pl.adr K (Pl.fn "is_name")) (fdAt K (Pl.adr K (Pl.fn "is_name"))) ["value"] (spName K) := by
  refine (d_is_name S).ok sc_is_name (fun vs H Q E h => ?_) (fun cdv A outer s H vs Q E hr h => ?_)
  · repeat (first | (obtain ⟨rfl, _⟩ := h; rfl) | (obtain ⟨_, h⟩ := h))
  · have nd := sc_is_name.nd
    refine ⟨_, PSs.nox ((pss_cons (ps_if (PW.pt (pw_or (pt_not (pt_val (pe_callB call_isi (by rfl) (n_isinstance S) (by decide +kernel) (pa_cons (pv 0) (pa_cons (pe_bltn (v := .ty "str") (by rfl) (n_str S) (by decide +kernel) rfl) pa_nil))))) (pw_or1 (pt_cmpR op_gt (pe_callB call_len_str (by rfl) (n_len S) (by decide +kernel) (pa_cons (pv 0) pa_nil)) (pe_glob (v := .int 8) rfl (i_MOST_LETTERS S).choose_spec ⟨_, rfl⟩) (nomark _))))) (pss_one (ps_ret pe_bl)) pss_nil)
    (pss_one (ps_ret (pe_and (pe_isascii (pv 0)) (pe_and (pe_isalpha (pv 0)) (pe_one (pe_islower (pv 0))))))))), ?_⟩
    try dsimp only [cxOf_K]
    obtain ⟨x, rfl, ⟨w, rfl, hl, k⟩ | ⟨⟨t, ty, kt⟩, k⟩⟩ := h
    · unfold isName at k
      refine go_start (σ' := [_]) rfl ?_
      walk_at "gm"
      refine go_isi (b := true) (.ty "str") (.base (.str w)) (kit_ty (by decide +kernel)) ?_
      walk_at "gm"
      refine ⟨w, rfl, Nat.le_trans hl (by decide), ?_⟩
      walk_at "gm"
      refine go_dec (fun z => ?_) (fun z => ?_)
      · walk_at "gm"
        rw [decide_eq_false (by omega), Bool.false_and] at k
        exact k
      · rw [decide_eq_true (by omega), Bool.true_and] at k
        walk_at "gm"
        refine go_b (fun e1 => ?_) (fun e1 => ?_)
        · rw [e1, Bool.true_and] at k
          walk_at "gm"
          refine go_b (fun e2 => ?_) (fun e2 => ?_)
          · rw [e2, Bool.true_and] at k
            walk_at "gm"
            exact k
          · rw [e2, Bool.false_and] at k
            exact k
        · rw [e1, Bool.false_and] at k
          exact k
    · refine go_start (σ' := [_]) rfl ?_
      walk_at "gm"
      refine go_isi (.ty "str") ty kt ?_
      walk_at "gm"
      exact k
theorem cl_is_name {P : Program} {w : World} {base : Heap} (S : HD sys K mg) : Cl P w K mg base CX0 1 "is_name" (spName K) := ⟨_, _, _, (fk_cl_is_name S), g_is_name S, (d_is_name S).kp, b_is_name S⟩
theorem name_yes {H : Hp} {Q : VK} {E : XK} {w : Str} (h : isName w = true) (k : Q (.bl true) H) : spName K [.str w] H Q E :=
  ⟨_, rfl, .inl ⟨w, rfl, Nat.le_trans (of_decide_eq_true (Bool.and_eq_true_iff.mp h).1) (by decide), by rw [h]; exact k⟩⟩
theorem name_no {H : Hp} {Q : VK} {E : XK} {x : V} (h : (∃ w : Str, x = .str w ∧ w.length ≤ 1000000 ∧ isName w = false) ∨ NoStr K H x) (k : Q (.bl false) H) : spName K [x] H Q E := by
  rcases h with ⟨w, rfl, hl, h⟩ | h
  · exact ⟨_, rfl, .inl ⟨w, rfl, hl, by rw [h]; exact k⟩⟩
  · exact ⟨_, rfl, .inr ⟨h, k⟩⟩
/-! ### words -/
/-- a number as str writes it -/
def okW (l : List Nat) : Prop := l ≠ [] ∧ NumText.AllDigits l ∧ (l = [48] ∨ l.head? ≠ some 48)
def valW (w : Str) : Int := ((NumText.digitsVal (TL.tl w) : Nat) : Int)
theorem atI_nat {α : Type} {n : Nat} {xs : List α} (h : n < xs.length) : atI xs (n : Int) = xs[n]? := by
  unfold atI ixN
  simp [h]
def spFigs : Sp := fun vs H Q _ => ∃ w : Str, vs = [.str w] ∧ w.length ≤ 1000000 ∧ ∀ b : Bool, (b = true ↔ okW (TL.tl w)) → Q (.bl b) H
theorem sign_zero {c : Nat} : decide ((⟨#[c]⟩ : Str) = "0") = decide (c = 48) := decide_eq_decide.mpr ⟨fun h => by
  have := congrArg (fun x : Str => x.cps.toList) h
  have e : ("0" : Str).cps.toList = [48] := by decide +kernel
  rw [e] at this
  simpa using this, fun h => by
  subst h
  decide +kernel⟩
theorem word_zero {w : Str} : (w = "0") ↔ TL.tl w = [48] := by
  have e : TL.tl "0" = [48] := by decide +kernel
  rw [← e]
  exact ⟨fun h => by rw [h], TL.ext_tl⟩
theorem fk_cl_is_figures {P : Program} {w : World} {base : Heap} (S : HD sys K mg) : FnOk P w K mg base CX0 1 (Pl.adr K (Pl.fn "is_figures")) (fdAt K (Pl.adr K (Pl.fn "is_figures"))) ["word"] (spFigs) := by
  refine (d_is_figures S).ok sc_is_figures (fun vs H Q E h => ?_) (fun cdv A outer s H vs Q E hr h => ?_)
  · repeat (first | (obtain ⟨rfl, _⟩ := h; rfl) | (obtain ⟨_, h⟩ := h))
  · have nd := sc_is_figures.nd
    refine ⟨_, PSs.nox ((pss_one (ps_ret (pe_and (pe_isascii (pv 0)) (pe_and (pe_isdigit (pv 0)) (pe_one (pe_or (pe_cmpR op_eq (pv 0) pe_str (nomark _)) (pe_one (pe_cmpR op_ne (pe_ix ix_str (pv 0) pe_int (fun _ _ => rfl)) pe_str (nomark _)))))))))), ?_⟩
    try dsimp only [cxOf_K]
    obtain ⟨w, rfl, hl, k⟩ := h
    have key := figs_iff w
    refine go_start (σ' := [_]) rfl ?_
    walk_at "gm"
    refine go_b (fun e1 => ?_) (fun e1 => ?_)
    · walk_at "gm"
      refine go_b (fun e2 => ?_) (fun e2 => ?_)
      · obtain ⟨n1, n2⟩ := key.mp (by rw [e1, e2]; rfl)
        obtain ⟨c, r, ec⟩ := List.exists_cons_of_ne_nil n1
        walk_at "gm"
        refine go_dec (fun z => ?_) (fun z => ?_)
        · refine k true ⟨fun _ => ⟨n1, n2, .inl ?_⟩, fun _ => rfl⟩
          exact word_zero.mp (by cases z; rfl)
        · walk_at "gm"
          refine ⟨w, 0, c, rfl, rfl, Nat.le_trans hl (by decide), ?_, ?_⟩
          · show atI (TL.tl w) 0 = some c
            rw [ec]
            exact atI_nat (n := 0) (xs := c :: r) (Nat.zero_lt_succ _)
          · walk_at "gm"
            refine bl_of (R := fun v => Q v H) (y := decide (c ≠ 48)) ?_ (k _ ?_)
            · refine (congrArg (fun b => !b) ?_).trans (by rw [decide_not])
              exact (decide_eq_decide.mpr ⟨fun h => by cases h; rfl, fun h => by rw [h]⟩).trans sign_zero
            · rw [decide_eq_true_iff, ec]
              refine ⟨fun h => ⟨by simp, ec ▸ n2, .inr (fun q => h (by cases q; rfl))⟩, fun h q => ?_⟩
              rcases h.2.2 with h | h
              · exact z (by rw [word_zero.mpr (ec.trans h)])
              · exact h (by rw [q]; rfl)
      · refine k false ⟨fun h => (by cases h), fun h => ?_⟩
        have := key.mpr ⟨h.1, h.2.1⟩
        rw [e1, e2] at this
        cases this
    · refine k false ⟨fun h => (by cases h), fun h => ?_⟩
      have := key.mpr ⟨h.1, h.2.1⟩
      rw [e1] at this
      cases this
theorem cl_is_figures {P : Program} {w : World} {base : Heap} (S : HD sys K mg) : Cl P w K mg base CX0 1 "is_figures" (spFigs) := ⟨_, _, _, (fk_cl_is_figures S), g_is_figures S, (d_is_figures S).kp, b_is_figures S⟩
theorem len_num {i : Int} (h0 : 0 ≤ i) (h1 : i < 10000000000000000000000000000000000000000000000000000000000000) : (Str.ofString (toString i)).length ≤ 61 := by
  obtain ⟨n, rfl⟩ := Int.eq_ofNat_of_zero_le h0
  rw [TL.len_tl, TL.tl_num]
  exact TL.numL_len (by decide) (by omega)
theorem log_num {i : Int} (h0 : 0 ≤ i) (h1 : i < 10000000000000000000000000000000000000000000000000000000000000) : i.natAbs.log2 < 1920 := by
  rcases Nat.eq_zero_or_pos i.natAbs with z | z
  · rw [z]
    decide
  · exact Nat.lt_of_le_of_lt (Nat.le_of_lt_succ ((Nat.log2_lt (by omega)).mpr (Nat.lt_trans (show i.natAbs < 10000000000000000000000000000000000000000000000000000000000000 by omega) (show 10000000000000000000000000000000000000000000000000000000000000 < 2 ^ 204 by decide +kernel)))) (by decide)
/-- a word that tells a number between lo and hi -/
def Tells (w : Str) (lo hi : Int) : Prop := okW (TL.tl w) ∧ w.length ≤ (Str.ofString (toString hi)).length ∧ lo ≤ valW w ∧ valW w ≤ hi
def spTells : Sp := fun vs H Q _ => ∃ (w : Str) (lo hi : Int), vs = [.str w, .int lo, .int hi] ∧ w.length ≤ 1000000 ∧ (0 ≤ hi ∧ hi < 10000000000000000000000000000000000000000000000000000000000000) ∧ ∀ b : Bool, (b = true ↔ Tells w lo hi) → Q (.bl b) H
theorem fk_cl_tells_number {P : Program} {w : World} {base : Heap} (S : HD sys K mg) : FnOk P w K mg base CX0 2 (Pl.adr K (Pl.fn "tells_number")) (fdAt K (Pl.adr K (Pl.fn "tells_number"))) ["word", "least", "most"] (spTells) := by
  refine (d_tells_number S).ok sc_tells_number (fun vs H Q E h => ?_) (fun cdv A outer s H vs Q E hr h => ?_)
  · repeat (first | (obtain ⟨rfl, _⟩ := h; rfl) | (obtain ⟨_, h⟩ := h))
  · have nd := sc_tells_number.nd
    refine ⟨_, PSs.nox ((pss_one (ps_ret (pe_and (pe_f (cl_is_figures S) hr (by decide) pass0 (pa_cons (pv 0) pa_nil)) (pe_and (pe_cmpR op_le (pe_callB call_len_str (by rfl) (n_len S) (by decide +kernel) (pa_cons (pv 0) pa_nil)) (pe_callB call_len_str (by rfl) (n_len S) (by decide +kernel) (pa_cons (pe_callTy call_str_int (by rfl) (n_str S) (by decide +kernel) (pa_cons (pv 2) pa_nil)) pa_nil)) (nomark _)) (pe_one (pe_chain op_le op_le (pv 1) (pe_callTy call_int_str (by rfl) (n_int S) (by decide +kernel) (pa_cons (pv 0) pa_nil)) (pv 2)))))))), ?_⟩
    try dsimp only [cxOf_K]
    obtain ⟨w, lo, hi, rfl, hl, ⟨b0, b1⟩, k⟩ := h
    refine go_start (σ' := [_, _, _]) rfl ?_
    walk_at "gm"
    refine ⟨w, rfl, hl, fun b hb => ?_⟩
    walk_at "gm"
    refine go_b (fun e1 => ?_) (fun e1 => ?_)
    · have ok := hb.mp e1
      have hlog := log_num b0 b1
      have lt := len_num b0 b1
      walk_at "gm"
      refine ⟨w, rfl, Nat.le_trans hl (by decide), ?_⟩
      walk_at "gm"
      refine ⟨hi, rfl, hlog, ?_⟩
      walk_at "gm"
      refine ⟨_, rfl, Nat.le_trans lt (by decide), ?_⟩
      walk_at "gm"
      refine go_dec (fun e2 => ?_) (fun e2 => ?_)
      · have hw : w.length ≤ (Str.ofString (toString hi)).length := by omega
        walk_at "gm"
        refine ⟨w, valW w, rfl, intText_digits ok.2.1 ok.1 (by omega), by omega, ?_⟩
        walk_at "gm"
        refine go_dec (fun e3 => ?_) (fun e3 => ?_)
        · walk_at "gm"
          exact k _ ⟨fun h => ⟨ok, hw, e3, of_decide_eq_true h⟩, fun h => decide_eq_true h.2.2.2⟩
        · walk_at "gm"
          exact k false ⟨fun h => (by cases h), fun h => absurd h.2.2.1 e3⟩
      · exact k false ⟨fun h => (by cases h), fun h => absurd h.2.1 (by omega)⟩
    · refine k false ⟨fun h => (by cases h), fun h => ?_⟩
      have := hb.mpr h.1
      rw [e1] at this
      cases this
theorem cl_tells_number {P : Program} {w : World} {base : Heap} (S : HD sys K mg) : Cl P w K mg base CX0 2 "tells_number" (spTells) := ⟨_, _, _, (fk_cl_tells_number S), g_tells_number S, (d_tells_number S).kp, b_tells_number S⟩
abbrev WdF (l : Addr) (st ln n : Int) : List (Str × V) := [("_words", .ref l), ("_start", .int st), ("_line", .int ln), ("_at", .int n)]
def spWdInit (C : Addr) : Sp := fun vs H Q _ => ∃ (p dx l : Addr) (ws : List Str) (st ln : Int), vs = [.ref p, .ref l, .int st, .int ln] ∧ H p = some (.ins C dx []) ∧ H l = some (.lst (ws.map V.str)) ∧ ws.length ≤ 100000 ∧
  ∀ l' H', Kp p H H' → H l' = none → H' l' = some (.lst (ws.map V.str)) → H' p = some (.ins C dx (WdF l' st ln 0)) → Q .non H'
theorem fk_mke_Words___init__ {P : Program} {w : World} {base : Heap} (S : HD sys K mg) : FnOk P w K mg base CX0 1 (Pl.adr K (Pl.me "Words" "__init__")) (fdAt K (Pl.adr K (Pl.me "Words" "__init__"))) ["self", "words", "start", "line"] (spWdInit (ga K "Words")) := by
  refine (d_Words___init__ S).ok sc_Words___init__ (fun vs H Q E h => ?_) (fun cdv A outer s H vs Q E hr h => ?_)
  · repeat (first | (obtain ⟨rfl, _⟩ := h; rfl) | (obtain ⟨_, h⟩ := h))
  · have nd := sc_Words___init__.nd
    refine ⟨_, PSs.nox ((pss_cons (ps_fld (pv 0) (pe_callTy call_list_of (by rfl) (n_list S) (by decide +kernel) (pa_cons (pv 1) pa_nil)) rfl)
    (pss_cons (ps_fld (pv 0) (pv 2) rfl)
    (pss_cons (ps_fld (pv 0) (pv 3) rfl)
    (pss_one (ps_fld (pv 0) pe_int rfl)))))), ?_⟩
    try dsimp only [cxOf_K]
    obtain ⟨p, dx, l, ws, st, ln, rfl, hp, hl, hn, k⟩ := h
    have cCWords := C_Words S
    have naWords_words := na_Words__words S
    have naWords_start := na_Words__start S
    have naWords_line := na_Words__line S
    have naWords_at := na_Words__at S
    refine go_start (σ' := [_, _, _, _]) rfl ?_
    walk_at "gm"
    rename_i l' H' nl s hl'
    rw [upd_upd, upd_upd, upd_upd]
    exact k l' _ (fun b o h ne => (upd_ne ne).trans (s b o h)) nl ((upd_ne (fun z => by rw [z, hp] at nl; cases nl)).trans hl') upd_same
theorem mke_Words {P : Program} {w : World} {base : Heap} (S : HD sys K mg) : Mke P w K mg base CX0 1 "Words" (spWdInit (ga K "Words")) := ⟨_, _, _, (fk_mke_Words___init__ S), mk_Words S, g_Words S, b_Words___init__ S⟩
def WdAt (C : Addr) (H : Hp) (a l : Addr) (ws : List Str) (st ln : Int) (n : Nat) : Prop := (∃ dx, H a = some (.ins C dx (WdF l st ln n))) ∧ H l = some (.lst (ws.map V.str)) ∧ a ≠ l
def spIsOver (C : Addr) : Sp := fun vs H Q _ => ∃ (a l : Addr) (ws : List Str) (st ln : Int) (n : Nat), vs = [.ref a] ∧ WdAt C H a l ws st ln n ∧ Q (.bl (decide ((n : Int) = (ws.length : Nat)))) H
theorem fk_me_Words_is_over {P : Program} {w : World} {base : Heap} (S : HD sys K mg) : FnOk P w K mg base CX0 1 (Pl.adr K (Pl.me "Words" "is_over")) (fdAt K (Pl.adr K (Pl.me "Words" "is_over"))) ["self"] (spIsOver (ga K "Words")) := by
  refine (d_Words_is_over S).ok sc_Words_is_over (fun vs H Q E h => ?_) (fun cdv A outer s H vs Q E hr h => ?_)
  · repeat (first | (obtain ⟨rfl, _⟩ := h; rfl) | (obtain ⟨_, h⟩ := h))
  · have nd := sc_Words_is_over.nd
    refine ⟨_, PSs.nox ((pss_one (ps_ret (pe_cmpR op_eq (pe_fld (pv 0) rfl) (pe_callB call_len_seq (by rfl) (n_len S) (by decide +kernel) (pa_cons (pe_fld (pv 0) rfl) pa_nil)) (nomark _))))), ?_⟩
    try dsimp only [cxOf_K]
    obtain ⟨a, l, ws, st, ln, n, rfl, ⟨⟨dx, ha⟩, hl, ne⟩, k⟩ := h
    have cCWords := C_Words S
    have naWords_words := na_Words__words S
    have naWords_start := na_Words__start S
    have naWords_line := na_Words__line S
    have naWords_at := na_Words__at S
    refine go_start (σ' := [_]) rfl ?_
    walk_at "gm"
    rw [List.length_map]
    refine bl_of (R := fun v => Q v H) ?_ k
    exact decide_eq_decide.mpr ⟨fun h => by cases h; rfl, fun h => by rw [h]⟩
theorem me_Words_is_over {P : Program} {w : World} {base : Heap} (S : HD sys K mg) : Me P w K mg base CX0 1 (ga K "Words") "is_over" (spIsOver (ga K "Words")) := ⟨_, _, _, (fk_me_Words_is_over S), C_Words S, mt_Words_is_over S, b_Words_is_over S⟩
theorem fk_ex_BadText___init__ {P : Program} {w : World} {base : Heap} (S : HD sys K mg) : FnOk P w K mg base CX0 1 (Pl.adr K (Pl.me "BadText" "__init__")) (fdAt K (Pl.adr K (Pl.me "BadText" "__init__"))) ["self", "line", "word"] (spEx2 (ga K "BadText") "line" "word") := by
  refine (d_BadText___init__ S).ok sc_BadText___init__ (fun vs H Q E h => ?_) (fun cdv A outer s H vs Q E hr h => ?_)
  · repeat (first | (obtain ⟨rfl, _⟩ := h; rfl) | (obtain ⟨_, h⟩ := h))
  · have nd := sc_BadText___init__.nd
    refine ⟨_, PSs.nox ((pss_cons (ps_ost (pv 0) (pv 1))
    (pss_one (ps_ost (pv 0) (pv 2))))), ?_⟩
    try dsimp only [cxOf_K]
    obtain ⟨a, v, w, rfl, ha, k⟩ := h
    refine go_start (σ' := [_, _, _]) rfl ?_
    walk_at "go"
    refine go_ost1 (exo_BadText S).oex (na_BadText_line S) ha fun dx n ne => ?_
    walk_at "go"
    refine go_ost2 (exo_BadText S).oex (na_BadText_word S) ne ?_
    walk_at "go"
    exact k dx n ne
theorem ex_BadText {P : Program} {w : World} {base : Heap} (S : HD sys K mg) : Ex P w K mg base 1 "BadText" (spEx2 (ga K "BadText") "line" "word") := ⟨_, _, (fk_ex_BadText___init__ S), exo_BadText S, g_BadText S, b_BadText___init__ S⟩
/-- the n-th word cannot stand -/
abbrev ErW (K : PySem.W.Frag) (st ln : Int) (n : Nat) (H : Hp) (E : XK) : Prop := Er2 K "BadText" "line" "word" (.int ln) (.int (st + (n : Nat))) H E
def spRefuse (K : PySem.W.Frag) : Sp := fun vs H _ E => ∃ (a l : Addr) (ws : List Str) (st ln : Int) (n : Nat), vs = [.ref a] ∧ WdAt (ga K "Words") H a l ws st ln n ∧ ErW K st ln n H E
theorem fk_me_Words_refuse {P : Program} {w : World} {base : Heap} (S : HD sys K mg) : FnOk P w K mg base (L2.CX P w) 3 (Pl.adr K (Pl.me "Words" "refuse")) (fdAt K (Pl.adr K (Pl.me "Words" "refuse"))) ["self"] (spRefuse K) := by
  refine (d_Words_refuse S).ok sc_Words_refuse (fun vs H Q E h => ?_) (fun cdv A outer s H vs Q E hr h => ?_)
  · repeat (first | (obtain ⟨rfl, _⟩ := h; rfl) | (obtain ⟨_, h⟩ := h))
  · have nd := sc_Words_refuse.nd
    refine ⟨_, ((pss_one (ps_raise rfl (takes_of rfl rfl rfl rfl) (pmk_ex (ex_BadText S) hr (by decide) (pa_cons (pe_fld (pv 0) rfl) (pa_cons (pe_op op_add (pe_fld (pv 0) rfl) (pe_fld (pv 0) rfl)) pa_nil)))))), ?_⟩
    try dsimp only [cxOf_K]
    obtain ⟨a, l, ws, st, ln, n, rfl, ⟨⟨dx, ha⟩, hl, ne⟩, k⟩ := h
    have cCWords := C_Words S
    have naWords_words := na_Words__words S
    have naWords_start := na_Words__start S
    have naWords_line := na_Words__line S
    have naWords_at := na_Words__at S
    rw [show L2.start ["self"] [V.ref a] = [some (V.ref a)] from rfl]
    walk_at "gm"
    exact go_ex2 k.at
theorem me_Words_refuse {P : Program} {w : World} {base : Heap} (S : HD sys K mg) : Me P w K mg base (L2.CX P w) 3 (ga K "Words") "refuse" (spRefuse K) := ⟨_, _, _, (fk_me_Words_refuse S), C_Words S, mt_Words_refuse S, b_Words_refuse S⟩
def spTake (K : PySem.W.Frag) : Sp := fun vs H Q E => ∃ (a l : Addr) (ws : List Str) (st ln : Int) (n : Nat) (lo hi : Int), vs = [.ref a, .int lo, .int hi] ∧ WdAt (ga K "Words") H a l ws st ln n ∧ (n ≤ ws.length ∧ ws.length ≤ 100000 ∧ ∀ w ∈ ws, w.length ≤ 1000000) ∧ (0 ≤ hi ∧ hi < 10000000000000000000000000000000000000000000000000000000000000) ∧
  (∀ w, ws[n]? = some w → Tells w lo hi → ∀ H', Kp a H H' → WdAt (ga K "Words") H' a l ws st ln (n + 1) → Q (.int (valW w)) H') ∧ ((∀ w, ws[n]? = some w → ¬ Tells w lo hi) → ErW K st ln n H E)
theorem fk_me_Words_take_number {P : Program} {w : World} {base : Heap} (S : HD sys K mg) : FnOk P w K mg base (L2.CX P w) 4 (Pl.adr K (Pl.me "Words" "take_number")) (fdAt K (Pl.adr K (Pl.me "Words" "take_number"))) ["self", "least", "most"] (spTake K) := by
  refine (d_Words_take_number S).ok sc_Words_take_number (fun vs H Q E h => ?_) (fun cdv A outer s H vs Q E hr h => ?_)
  · repeat (first | (obtain ⟨rfl, _⟩ := h; rfl) | (obtain ⟨_, h⟩ := h))
  · have nd := sc_Words_take_number.nd
    refine ⟨_, ((pss_cons (ps_if (PW.pt (pw_or (pt_val (pe_me0 (me_Words_is_over S) hr (by decide) pass0 (pv 0))) (pw_or1 (pt_not (pt_val (pe_f (cl_tells_number S) hr (by decide) pass0 (pa_cons (pe_ix ix_list (pe_fld (pv 0) rfl) (pe_fld (pv 0) rfl) (fun _ _ => rfl)) (pa_cons (pv 1) (pa_cons (pv 2) pa_nil))))))))) (pss_one (ps_expr (pe_me0 (me_Words_refuse S) hr (by decide) (passes_call (takes_of rfl rfl rfl rfl) (fun _ _ _ _ h => h)) (pv 0)))) pss_nil)
    (pss_cons (ps_fldaug (pv 0) pe_int in_add)
    (pss_one (ps_ret (pe_callTy call_int_str (by rfl) (n_int S) (by decide +kernel) (pa_cons (pe_ix ix_list (pe_fld (pv 0) rfl) (pe_op op_sub (pe_fld (pv 0) rfl) pe_int) (fun _ _ => rfl)) pa_nil))))))), ?_⟩
    try dsimp only [cxOf_K]
    obtain ⟨a, l, ws, st, ln, n, lo, hi, rfl, W, ⟨b1, b2, b3⟩, b4, k1, k2⟩ := h
    obtain ⟨⟨dx, ha⟩, hl, ne⟩ := W
    have cCWords := C_Words S
    have naWords_words := na_Words__words S
    have naWords_start := na_Words__start S
    have naWords_line := na_Words__line S
    have naWords_at := na_Words__at S
    refine go_start (σ' := [_, _, _]) rfl ?_
    walk_at "gm"
    refine ⟨a, l, ws, st, ln, n, rfl, ⟨⟨dx, ha⟩, hl, ne⟩, ?_⟩
    walk_at "gm"
    refine go_dec (fun z => ?_) (fun z => ?_)
    · walk_at "gm"
      refine ⟨a, l, ws, st, ln, n, rfl, ⟨⟨dx, ha⟩, hl, ne⟩, k2 fun w hw => ?_⟩
      rw [List.getElem?_eq_none (by omega)] at hw
      cases hw
    · have hn : n < ws.length := by omega
      obtain ⟨w, hw⟩ : ∃ w, ws[n]? = some w := ⟨_, List.getElem?_eq_getElem hn⟩
      have hw' : atI (ws.map V.str) (n : Int) = some (V.str w) := by
        rw [atI_nat (by rw [List.length_map]; exact hn), List.getElem?_map, hw]
        rfl
      walk_at "gm"
      refine go_ixl (.of hl) hw' ?_
      walk_at "gm"
      refine ⟨w, lo, hi, rfl, b3 w (List.mem_of_getElem? hw), b4, fun b hb => ?_⟩
      cases b with
      | false =>
        walk_at "gm"
        refine ⟨a, l, ws, st, ln, n, rfl, ⟨⟨dx, ha⟩, hl, ne⟩, k2 fun w' hw2 h => ?_⟩
        rw [hw] at hw2
        cases hw2
        cases hb.mpr h
      | true =>
        have ht := hb.mp rfl
        walk_at "gm"
        refine go_var rfl ⟨a, ga K "Words", dx, WdF l st ln n, .int n, rfl, ha, C_Words S, na_Words__at S, rfl, ?_⟩
        refine go_c ⟨n, 1, rfl, rfl, dx, WdF l st ln n, ha, Nat.le_of_ble_eq_true rfl, ?_⟩
        have e : putF "_at" (V.int ((n : Int) + 1)) (WdF l st ln n) = WdF l st ln ((n : Int) + 1) := rfl
        rw [e]
        have hl2 : upd H a (.ins (ga K "Words") dx (WdF l st ln ((n : Int) + 1))) l = some (.lst (ws.map V.str)) := (upd_ne (Ne.symm ne)).trans hl
        walk_at "gm"
        refine go_ixl (.of hl2) (by rw [show ((n : Int) + 1 - 1) = n by omega]; exact hw') ?_
        walk_at "gm"
        refine ⟨w, valW w, rfl, intText_digits ht.1.2.1 ht.1.1 (Nat.le_trans ht.2.1 (Nat.le_trans (len_num b4.1 b4.2) (by decide))), Nat.le_trans ht.2.1 (Nat.le_trans (len_num b4.1 b4.2) (by decide)), ?_⟩
        exact k1 w hw ht _ Kp.put ⟨⟨dx, upd_same⟩, hl2, ne⟩
theorem me_Words_take_number {P : Program} {w : World} {base : Heap} (S : HD sys K mg) : Me P w K mg base (L2.CX P w) 4 (ga K "Words") "take_number" (spTake K) := ⟨_, _, _, (fk_me_Words_take_number S), C_Words S, mt_Words_take_number S, b_Words_take_number S⟩
def spTakeEnd (K : PySem.W.Frag) : Sp := fun vs H Q E => ∃ (a l : Addr) (ws : List Str) (st ln : Int) (n : Nat), vs = [.ref a] ∧ WdAt (ga K "Words") H a l ws st ln n ∧ n ≤ ws.length ∧ (n = ws.length → Q .non H) ∧ (n < ws.length → ErW K st ln n H E)
theorem fk_me_Words_take_end {P : Program} {w : World} {base : Heap} (S : HD sys K mg) : FnOk P w K mg base (L2.CX P w) 4 (Pl.adr K (Pl.me "Words" "take_end")) (fdAt K (Pl.adr K (Pl.me "Words" "take_end"))) ["self"] (spTakeEnd K) := by
  refine (d_Words_take_end S).ok sc_Words_take_end (fun vs H Q E h => ?_) (fun cdv A outer s H vs Q E hr h => ?_)
  · repeat (first | (obtain ⟨rfl, _⟩ := h; rfl) | (obtain ⟨_, h⟩ := h))
  · have nd := sc_Words_take_end.nd
    refine ⟨_, ((pss_one (ps_if (pt_not (pt_val (pe_me0 (me_Words_is_over S) hr (by decide) pass0 (pv 0)))) (pss_one (ps_expr (pe_me0 (me_Words_refuse S) hr (by decide) (passes_call (takes_of rfl rfl rfl rfl) (fun _ _ _ _ h => h)) (pv 0)))) pss_nil))), ?_⟩
    try dsimp only [cxOf_K]
    obtain ⟨a, l, ws, st, ln, n, rfl, W, hn, k1, k2⟩ := h
    refine go_start (σ' := [_]) rfl ?_
    have W' := W
    obtain ⟨⟨dx, ha⟩, _⟩ := W'
    walk_at "gm"
    refine ⟨a, l, ws, st, ln, n, rfl, W, ?_⟩
    walk_at "gm"
    refine go_ndec (fun z => ?_) (fun z => ?_)
    · walk_at "gm"
      exact ⟨a, l, ws, st, ln, n, rfl, W, k2 (by omega)⟩
    · walk_at "gm"
      exact k1 (by omega)
theorem me_Words_take_end {P : Program} {w : World} {base : Heap} (S : HD sys K mg) : Me P w K mg base (L2.CX P w) 4 (ga K "Words") "take_end" (spTakeEnd K) := ⟨_, _, _, (fk_me_Words_take_end S), C_Words S, mt_Words_take_end S, b_Words_take_end S⟩
/-- a text, or none -/
def spText (K : PySem.W.Frag) : Sp := fun vs H Q E => ∃ v : V, vs = [v] ∧ ((∃ z : Str, v = .str z ∧ Q .non H) ∨ (NoStr K H v ∧ Er2 K "BadText" "line" "word" (.int 0) (.int 0) H E))
theorem fk_cl_check_text {P : Program} {w : World} {base : Heap} (S : HD sys K mg) : FnOk P w K mg base (L2.CX P w) 3 (Pl.adr K (Pl.fn "check_text")) (fdAt K (Pl.adr K (Pl.fn "check_text"))) ["text"] (spText K) := by
  refine (d_check_text S).ok sc_check_text (fun vs H Q E h => ?_) (fun cdv A outer s H vs Q E hr h => ?_)
  · repeat (first | (obtain ⟨rfl, _⟩ := h; rfl) | (obtain ⟨_, h⟩ := h))
  · have nd := sc_check_text.nd
    refine ⟨_, ((pss_one (ps_if (pt_not (pt_val (pe_callB call_isi (by rfl) (n_isinstance S) (by decide +kernel) (pa_cons (pv 0) (pa_cons (pe_bltn (v := .ty "str") (by rfl) (n_str S) (by decide +kernel) rfl) pa_nil))))) (pss_one (ps_raise rfl (takes_of rfl rfl rfl rfl) (pmk_ex (ex_BadText S) hr (by decide) (pa_cons pe_int (pa_cons pe_int pa_nil))))) pss_nil))), ?_⟩
    try dsimp only [cxOf_K]
    obtain ⟨v, rfl, ⟨z, rfl, k⟩ | ⟨⟨t, ty, k1⟩, k⟩⟩ := h
    · refine go_start (σ' := [_]) rfl ?_
      walk_at "gm"
      refine go_isi (b := true) (.ty "str") (.base (.str z)) (kit_ty (by decide +kernel)) ?_
      walk_at "gm"
      exact k
    · refine go_start (σ' := [_]) rfl ?_
      walk_at "gm"
      refine go_isi (.ty "str") ty k1 ?_
      walk_at "gm"
      exact go_ex2 k.at
theorem cl_check_text {P : Program} {w : World} {base : Heap} (S : HD sys K mg) : Cl P w K mg base (L2.CX P w) 3 "check_text" (spText K) := ⟨_, _, _, (fk_cl_check_text S), g_check_text S, (d_check_text S).kp, b_check_text S⟩
def spWords (K : PySem.W.Frag) : Sp := fun vs H Q E => ∃ (v : V) (ln : Int), vs = [v, .int ln] ∧ ((∃ z : Str, v = .str z ∧ z.length ≤ 1000000 ∧ (Txt.split z " ").length ≤ 100000 ∧ ∀ a l H', H a = none → Same H H' → WdAt (ga K "Words") H' a l (Txt.split z " ") 0 ln 0 → Q (.ref a) H') ∨
  (NoStr K H v ∧ Er2 K "BadText" "line" "word" (.int 0) (.int 0) H E))
theorem fk_cl_words_of {P : Program} {w : World} {base : Heap} (S : HD sys K mg) : FnOk P w K mg base (L2.CX P w) 4 (Pl.adr K (Pl.fn "words_of")) (fdAt K (Pl.adr K (Pl.fn "words_of"))) ["text", "line"] (spWords K) := by
  refine (d_words_of S).ok sc_words_of (fun vs H Q E h => ?_) (fun cdv A outer s H vs Q E hr h => ?_)
  · repeat (first | (obtain ⟨rfl, _⟩ := h; rfl) | (obtain ⟨_, h⟩ := h))
  · have nd := sc_words_of.nd
    refine ⟨_, ((pss_cons (ps_expr (pe_f (cl_check_text S) hr (by decide) (passes_call (takes_of rfl rfl rfl rfl) (fun _ _ _ _ h => h)) (pa_cons (pv 0) pa_nil)))
    (pss_one (ps_ret (pe_mke (mke_Words S) hr (by decide) pass0 (pa_cons (pe_splitS (pv 0) pe_str) (pa_cons pe_int (pa_cons (pv 1) pa_nil)))))))), ?_⟩
    try dsimp only [cxOf_K]
    obtain ⟨v, ln, rfl, ⟨z, rfl, hz, hs, k⟩ | ⟨hn, k⟩⟩ := h
    · refine go_start (σ' := [_, _]) rfl ?_
      walk_at "gm"
      refine ⟨_, rfl, .inl ⟨z, rfl, ?_⟩⟩
      walk_at "gm"
      refine go_split (by decide +kernel) (by omega) fun p H1 np s1 hp => ?_
      walk_at "gm"
      intro x dx nx nd ne
      have hp' : upd (upd H1 dx (.own x)) x (.ins (ga K "Words") dx []) p = some (.lst ((Txt.split z " ").map V.str)) :=
        (upd_ne (fun q => by rw [← q, hp] at nx; cases nx)).trans ((upd_ne (fun q => by rw [← q, hp] at nd; cases nd)).trans hp)
      refine ⟨x, dx, p, Txt.split z " ", 0, ln, rfl, upd_same, hp', hs, fun l' H' kp nl' hl' hx => ⟨rfl, ?_⟩⟩
      refine k x l' H' (no_sm s1 nx) (fun b o h => ?_) ⟨⟨dx, hx⟩, hl', fun q => by rw [← q, upd_same] at nl'; cases nl'⟩
      have h1 := s1 b o h
      have bx : b ≠ x := fun q => by rw [q, nx] at h1; cases h1
      have bd : b ≠ dx := fun q => by rw [q, nd] at h1; cases h1
      exact kp b o ((upd_ne bx).trans ((upd_ne bd).trans h1)) bx
    · refine go_start (σ' := [_, _]) rfl ?_
      walk_at "gm"
      exact ⟨_, rfl, .inr ⟨hn, k⟩⟩
theorem cl_words_of {P : Program} {w : World} {base : Heap} (S : HD sys K mg) : Cl P w K mg base (L2.CX P w) 4 "words_of" (spWords K) := ⟨_, _, _, (fk_cl_words_of S), g_words_of S, (d_words_of S).kp, b_words_of S⟩
theorem cld_words_of_1 {P : Program} {w : World} {base : Heap} (S : HD sys K mg) : ClD P w K mg base (L2.CX P w) 4 "words_of" (spWords K) [V.int (0)] := by
  obtain ⟨ds, v, b⟩ := bd_words_of_1 S
  exact ⟨_, _, _, ds, (fk_cl_words_of S), g_words_of S, (d_words_of S).kp, b, v⟩
/-- a name behind another -/
def NameAft (z w : Str) : Prop := isName w = true ∧ z.cps.toList < w.cps.toList
def spTakeName (K : PySem.W.Frag) : Sp := fun vs H Q E => ∃ (a l : Addr) (ws : List Str) (st ln : Int) (n : Nat) (z : Str), vs = [.ref a, .str z] ∧ WdAt (ga K "Words") H a l ws st ln n ∧ (n ≤ ws.length ∧ ws.length ≤ 100000 ∧ ∀ w ∈ ws, w.length ≤ 1000000) ∧
  (∀ w, ws[n]? = some w → NameAft z w → ∀ H', Kp a H H' → WdAt (ga K "Words") H' a l ws st ln (n + 1) → Q (.str w) H') ∧ ((∀ w, ws[n]? = some w → ¬ NameAft z w) → ErW K st ln n H E)
theorem fk_me_Words_take_name {P : Program} {w : World} {base : Heap} (S : HD sys K mg) : FnOk P w K mg base (L2.CX P w) 4 (Pl.adr K (Pl.me "Words" "take_name")) (fdAt K (Pl.adr K (Pl.me "Words" "take_name"))) ["self", "ahead"] (spTakeName K) := by
  refine (d_Words_take_name S).ok sc_Words_take_name (fun vs H Q E h => ?_) (fun cdv A outer s H vs Q E hr h => ?_)
  · repeat (first | (obtain ⟨rfl, _⟩ := h; rfl) | (obtain ⟨_, h⟩ := h))
  · have nd := sc_Words_take_name.nd
    refine ⟨_, ((pss_cons (ps_if (PW.pt (pw_or (pt_val (pe_me0 (me_Words_is_over S) hr (by decide) pass0 (pv 0))) (pw_or (pt_not (pt_val (pe_f (cl_is_name S) hr (by decide) pass0 (pa_cons (pe_ix ix_list (pe_fld (pv 0) rfl) (pe_fld (pv 0) rfl) (fun _ _ => rfl)) pa_nil)))) (pw_or1 (pt_cmpR op_le_str (pe_ix ix_list (pe_fld (pv 0) rfl) (pe_fld (pv 0) rfl) (fun _ _ => rfl)) (pv 1) (nomark _)))))) (pss_one (ps_expr (pe_me0 (me_Words_refuse S) hr (by decide) (passes_call (takes_of rfl rfl rfl rfl) (fun _ _ _ _ h => h)) (pv 0)))) pss_nil)
    (pss_cons (ps_fldaug (pv 0) pe_int in_add)
    (pss_one (ps_ret (pe_ix ix_list (pe_fld (pv 0) rfl) (pe_op op_sub (pe_fld (pv 0) rfl) pe_int) (fun _ _ => rfl))))))), ?_⟩
    try dsimp only [cxOf_K]
    obtain ⟨a, l, ws, st, ln, n, z, rfl, W, ⟨b1, b2, b3⟩, k1, k2⟩ := h
    obtain ⟨⟨dx, ha⟩, hl, ne⟩ := W
    have cCWords := C_Words S
    have naWords_words := na_Words__words S
    have naWords_start := na_Words__start S
    have naWords_line := na_Words__line S
    have naWords_at := na_Words__at S
    refine go_start (σ' := [_, _]) rfl ?_
    walk_at "gm"
    refine ⟨a, l, ws, st, ln, n, rfl, ⟨⟨dx, ha⟩, hl, ne⟩, ?_⟩
    walk_at "gm"
    refine go_dec (fun q => ?_) (fun q => ?_)
    · walk_at "gm"
      refine ⟨a, l, ws, st, ln, n, rfl, ⟨⟨dx, ha⟩, hl, ne⟩, k2 fun w hw => ?_⟩
      rw [List.getElem?_eq_none (by omega)] at hw
      cases hw
    · have hn : n < ws.length := by omega
      obtain ⟨w, hw⟩ : ∃ w, ws[n]? = some w := ⟨_, List.getElem?_eq_getElem hn⟩
      have hw' : atI (ws.map V.str) (n : Int) = some (V.str w) := by
        rw [atI_nat (by rw [List.length_map]; exact hn), List.getElem?_map, hw]
        rfl
      have no : ¬ NameAft z w → ErW K st ln n H E := fun h => k2 fun w' hw2 h' => by
        rw [hw] at hw2
        cases hw2
        exact h h'
      walk_at "gm"
      refine go_ixl (.of hl) hw' ?_
      walk_at "gm"
      refine ⟨_, rfl, .inl ⟨w, rfl, b3 w (List.mem_of_getElem? hw), ?_⟩⟩
      walk_at "gm"
      refine go_nb (fun e => ?_) (fun e => ?_)
      · walk_at "gm"
        exact ⟨a, l, ws, st, ln, n, rfl, ⟨⟨dx, ha⟩, hl, ne⟩, no fun h => by rw [h.1] at e; cases e⟩
      · walk_at "gm"
        refine go_ixl (.of hl) hw' ?_
        walk_at "gm"
        refine ⟨_, _, rfl, rfl, ?_⟩
        walk_at "gm"
        refine go_nb (fun e2 => ?_) (fun e2 => ?_)
        · walk_at "gm"
          exact ⟨a, l, ws, st, ln, n, rfl, ⟨⟨dx, ha⟩, hl, ne⟩, no fun h => by rw [decide_eq_true h.2] at e2; cases e2⟩
        · walk_at "gm"
          refine go_var rfl ⟨a, ga K "Words", dx, WdF l st ln n, .int n, rfl, ha, C_Words S, na_Words__at S, rfl, ?_⟩
          refine go_c ⟨n, 1, rfl, rfl, dx, WdF l st ln n, ha, Nat.le_of_ble_eq_true rfl, ?_⟩
          have e3 : putF "_at" (V.int ((n : Int) + 1)) (WdF l st ln n) = WdF l st ln ((n : Int) + 1) := rfl
          rw [e3]
          have hl2 : upd H a (.ins (ga K "Words") dx (WdF l st ln ((n : Int) + 1))) l = some (.lst (ws.map V.str)) := (upd_ne (Ne.symm ne)).trans hl
          walk_at "gm"
          refine go_ixl (.of hl2) (by rw [show ((n : Int) + 1 - 1) = n by omega]; exact hw') ?_
          exact k1 w hw ⟨e, of_decide_eq_true e2⟩ _ Kp.put ⟨⟨dx, upd_same⟩, hl2, ne⟩
theorem me_Words_take_name {P : Program} {w : World} {base : Heap} (S : HD sys K mg) : Me P w K mg base (L2.CX P w) 4 (ga K "Words") "take_name" (spTakeName K) := ⟨_, _, _, (fk_me_Words_take_name S), C_Words S, mt_Words_take_name S, b_Words_take_name S⟩
/-! ### promises -/
abbrev prF (z : Str) (b t : Int) : List (Str × V) := [("name", .str z), ("bits", .int b), ("ticks", .int t)]
def PrAt (C : Addr) (H : Hp) (a : Addr) (z : Str) (b t : Int) : Prop := ∃ dx, H a = some (.ins C dx (prF z b t))
structure PrV (z : Str) (b t : Int) : Prop where
  name : isName z = true
  b0 : 1 ≤ b
  b1 : b ≤ 1000000000000000000000000000000000000000000000000000000000000
  t0 : 0 ≤ t
  t1 : t ≤ 1000000000000000000000000000000000000000000000000000000000000
theorem name_len {z : Str} (h : isName z = true) : z.length ≤ 8 := of_decide_eq_true (Bool.and_eq_true_iff.mp h).1
theorem fk_ex_BadPromise___init__ {P : Program} {w : World} {base : Heap} (S : HD sys K mg) : FnOk P w K mg base CX0 1 (Pl.adr K (Pl.me "BadPromise" "__init__")) (fdAt K (Pl.adr K (Pl.me "BadPromise" "__init__"))) ["self", "part"] (spEx1 (ga K "BadPromise") "part") := by
  refine (d_BadPromise___init__ S).ok sc_BadPromise___init__ (fun vs H Q E h => ?_) (fun cdv A outer s H vs Q E hr h => ?_)
  · repeat (first | (obtain ⟨rfl, _⟩ := h; rfl) | (obtain ⟨_, h⟩ := h))
  · have nd := sc_BadPromise___init__.nd
    refine ⟨_, PSs.nox ((pss_one (ps_ost (pv 0) (pv 1)))), ?_⟩
    try dsimp only [cxOf_K]
    obtain ⟨a, v, rfl, ha, k⟩ := h
    refine go_start (σ' := [_, _]) rfl ?_
    walk_at "go"
    refine go_ost1 (exo_BadPromise S).oex (na_BadPromise_part S) ha fun dx n ne => ?_
    walk_at "go"
    exact k dx n ne
theorem ex_BadPromise {P : Program} {w : World} {base : Heap} (S : HD sys K mg) : Ex P w K mg base 1 "BadPromise" (spEx1 (ga K "BadPromise") "part") := ⟨_, _, (fk_ex_BadPromise___init__ S), exo_BadPromise S, g_BadPromise S, b_BadPromise___init__ S⟩
def NoName (K : PySem.W.Frag) (H : Hp) (x : V) : Prop := (∃ w : Str, x = .str w ∧ w.length ≤ 1000000 ∧ isName w = false) ∨ NoStr K H x
def NoIn (K : PySem.W.Frag) (H : Hp) (lo hi : Int) (x : V) : Prop := (∃ v : Int, x = .int v ∧ (v < lo ∨ hi < v)) ∨ NoInt K H x
def spPrInit (K : PySem.W.Frag) : Sp := fun vs H Q E => ∃ (p dx : Addr) (x y z : V), vs = [.ref p, x, y, z] ∧ H p = some (.ins (ga K "Promise") dx []) ∧
  ((∃ w b t, x = .str w ∧ y = .int b ∧ z = .int t ∧ PrV w b t ∧ Q .non (upd H p (.ins (ga K "Promise") dx (prF w b t)))) ∨
   (NoName K H x ∧ Er1 K "BadPromise" "part" (.str "name") H E) ∨
   (∃ w, x = .str w ∧ isName w = true ∧ NoIn K H 1 1000000000000000000000000000000000000000000000000000000000000 y ∧ Er1 K "BadPromise" "part" (.str "bits") H E) ∨
   (∃ w b, x = .str w ∧ isName w = true ∧ y = .int b ∧ (1 ≤ b ∧ b ≤ 1000000000000000000000000000000000000000000000000000000000000) ∧ NoIn K H 0 1000000000000000000000000000000000000000000000000000000000000 z ∧ Er1 K "BadPromise" "part" (.str "ticks") H E))
theorem fk_mke_Promise___init__ {P : Program} {w : World} {base : Heap} (S : HD sys K mg) : FnOk P w K mg base (L2.CX P w) 3 (Pl.adr K (Pl.me "Promise" "__init__")) (fdAt K (Pl.adr K (Pl.me "Promise" "__init__"))) ["self", "name", "bits", "ticks"] (spPrInit K) := by
  refine (d_Promise___init__ S).ok sc_Promise___init__ (fun vs H Q E h => ?_) (fun cdv A outer s H vs Q E hr h => ?_)
  · repeat (first | (obtain ⟨rfl, _⟩ := h; rfl) | (obtain ⟨_, h⟩ := h))
  · have nd := sc_Promise___init__.nd
    refine ⟨_, ((pss_cons (ps_if (pt_not (pt_val (pe_f (cl_is_name S) hr (by decide) pass0 (pa_cons (pv 1) pa_nil)))) (pss_one (ps_raise rfl (takes_of rfl rfl rfl rfl) (pmk_ex (ex_BadPromise S) hr (by decide) (pa_cons pe_str pa_nil)))) pss_nil)
    (pss_cons (ps_if (pt_not (pt_val (pe_f (cl_is_within S) hr (by decide) pass0 (pa_cons (pv 2) (pa_cons pe_int (pa_cons (pe_glob (v := .int 1000000000000000000000000000000000000000000000000000000000000) rfl (i_MOST_NUMBER S).choose_spec ⟨_, rfl⟩) pa_nil)))))) (pss_one (ps_raise rfl (takes_of rfl rfl rfl rfl) (pmk_ex (ex_BadPromise S) hr (by decide) (pa_cons pe_str pa_nil)))) pss_nil)
    (pss_cons (ps_if (pt_not (pt_val (pe_f (cl_is_within S) hr (by decide) pass0 (pa_cons (pv 3) (pa_cons pe_int (pa_cons (pe_glob (v := .int 1000000000000000000000000000000000000000000000000000000000000) rfl (i_MOST_NUMBER S).choose_spec ⟨_, rfl⟩) pa_nil)))))) (pss_one (ps_raise rfl (takes_of rfl rfl rfl rfl) (pmk_ex (ex_BadPromise S) hr (by decide) (pa_cons pe_str pa_nil)))) pss_nil)
    (pss_cons (ps_fld (pv 0) (pv 1) rfl)
    (pss_cons (ps_fld (pv 0) (pv 2) rfl)
    (pss_one (ps_fld (pv 0) (pv 3) rfl)))))))), ?_⟩
    try dsimp only [cxOf_K]
    obtain ⟨p, dx, x, y, z, rfl, hp, hc⟩ := h
    have cCPromise := C_Promise S
    have naPromisename := na_Promise_name S
    have naPromisebits := na_Promise_bits S
    have naPromiseticks := na_Promise_ticks S
    refine go_start (σ' := [_, _, _, _]) rfl ?_
    walk_at "gm"
    rcases hc with ⟨w, b, t, rfl, rfl, rfl, V, k⟩ | ⟨hn, k⟩ | ⟨w, rfl, hw, hn, k⟩ | ⟨w, b, rfl, hw, rfl, ⟨b0, b1⟩, hn, k⟩
    · refine name_yes V.name ?_
      walk_at "gm"
      refine within_yes V.b0 V.b1 ?_
      walk_at "gm"
      refine within_yes V.t0 V.t1 ?_
      walk_at "gm"
      rw [upd_upd, upd_upd]
      exact k
    · refine name_no hn ?_
      walk_at "gm"
      exact go_ex1 k.at
    · refine name_yes hw ?_
      walk_at "gm"
      refine within_no hn ?_
      walk_at "gm"
      exact go_ex1 k.at
    · refine name_yes hw ?_
      walk_at "gm"
      refine within_yes b0 b1 ?_
      walk_at "gm"
      refine within_no hn ?_
      walk_at "gm"
      exact go_ex1 k.at
theorem mke_Promise {P : Program} {w : World} {base : Heap} (S : HD sys K mg) : Mke P w K mg base (L2.CX P w) 3 "Promise" (spPrInit K) := ⟨_, _, _, (fk_mke_Promise___init__ S), mk_Promise S, g_Promise S, b_Promise___init__ S⟩
def kgf_mkk_Promise_ticks_bits_name {α : Type} (a c : List α) : List α := match a, c with | [s0], [k0, k1, k2] => [s0, k2, k1, k0] | _, _ => []
theorem mkk_Promise_ticks_bits_name {P : Program} {w : World} {base : Heap} (S : HD sys K mg) : MkeK P w K mg base (L2.CX P w) 3 "Promise" (spPrInit K) 0 ["ticks", "bits", "name"] (fun vs zs => kgf_mkk_Promise_ticks_bits_name vs zs) := by
  have b := (d_Promise___init__ S).kbindsP (ps := ["self", "name", "bits", "ticks"]) 1 ["ticks", "bits", "name"] (fun {_} a c => kgf_mkk_Promise_ticks_bits_name a c) (fun r1 r3 => by
      rcases r1 with _ | ⟨a1, _ | ⟨_, _⟩⟩ <;> rcases r3 with _ | ⟨c0, _ | ⟨c1, _ | ⟨c2, _ | ⟨_, _⟩⟩⟩⟩ <;> first | exact .nil | skip
      exact .cons a1 (.cons c2 (.cons c1 (.cons c0 (.nil)))))
    (fun kV doc pm an cdv ct us ws h1 h3 => match us, h1, ws, h3 with | [_], _, [_, _, _], _ => rfl)
  exact ⟨_, _, _, _, (fk_mke_Promise___init__ S), mk_Promise S, g_Promise S, b⟩
def rPrNew (K : PySem.W.Frag) (z : Str) (b t : Int) (H : Hp) (Q : VK) : Prop := ∀ x H', H x = none → Same H H' → PrAt (ga K "Promise") H' x z b t → Q (.ref x) H'
theorem pr_make {H : Hp} {Q : VK} {E : XK} {z : Str} {b t : Int} (v : PrV z b t) (k : ∀ x H', H x = none → Same H H' → PrAt (ga K "Promise") H' x z b t → Q (.ref x) H') : rMake (ga K "Promise") (spPrInit K) E [.str z, .int b, .int t] H Q := by
  intro x dx nx nd ne
  refine ⟨x, dx, _, _, _, rfl, upd_same, .inl ⟨z, b, t, rfl, rfl, rfl, v, rfl, ?_⟩⟩
  refine k x _ nx (fun a o h => ?_) ⟨dx, upd_same⟩
  rw [upd_ne (ne_of_none h nx), upd_ne (ne_of_none h nx), upd_ne (ne_of_none h nd)]
  exact h
def NoPr (K : PySem.W.Frag) (H : Hp) (v : V) : Prop := ∃ t : Value, TyX K H v t ∧ PySem.W.kitOne K t (.ref (ga K "Promise")) = some false
def spPrEq (K : PySem.W.Frag) : Sp := fun vs H Q _ => ∃ (a : Addr) (v : V) (z : Str) (b t : Int), vs = [.ref a, v] ∧ PrAt (ga K "Promise") H a z b t ∧
  ((∃ (c : Addr) (z2 : Str) (b2 t2 : Int), v = .ref c ∧ PrAt (ga K "Promise") H c z2 b2 t2 ∧ Q (.bl (decide (z = z2 ∧ b = b2 ∧ t = t2))) H) ∨ (NoPr K H v ∧ Q (.bl false) H))
theorem fk_op_Promise___eq__ {P : Program} {w : World} {base : Heap} (S : HD sys K mg) : FnOk P w K mg base CX0 1 (Pl.adr K (Pl.me "Promise" "__eq__")) (fdAt K (Pl.adr K (Pl.me "Promise" "__eq__"))) ["self", "other"] (spPrEq K) := by
  refine (d_Promise___eq__ S).ok sc_Promise___eq__ (fun vs H Q E h => ?_) (fun cdv A outer s H vs Q E hr h => ?_)
  · repeat (first | (obtain ⟨rfl, _⟩ := h; rfl) | (obtain ⟨_, h⟩ := h))
  · have nd := sc_Promise___eq__.nd
    refine ⟨_, PSs.nox ((pss_one (ps_ret (pe_and (pe_callB call_isi (by rfl) (n_isinstance S) (by decide +kernel) (pa_cons (pv 1) (pa_cons (pe_glob (v := .ref (ga K "Promise")) rfl (g_Promise S) rfl) pa_nil))) (pe_and (pe_cmpR op_eq (pe_fld (pv 0) rfl) (pe_fld (pv 1) rfl) (nomark _)) (pe_and (pe_cmpR op_eq (pe_fld (pv 0) rfl) (pe_fld (pv 1) rfl) (nomark _)) (pe_one (pe_cmpR op_eq (pe_fld (pv 0) rfl) (pe_fld (pv 1) rfl) (nomark _))))))))), ?_⟩
    try dsimp only [cxOf_K]
    have cCPromise := C_Promise S
    have naPromisename := na_Promise_name S
    have naPromisebits := na_Promise_bits S
    have naPromiseticks := na_Promise_ticks S
    obtain ⟨a, v, z, b, t, rfl, ⟨dx, ha⟩, ⟨c, z2, b2, t2, rfl, ⟨dy, hc⟩, k⟩ | ⟨⟨ty, h1, h2⟩, k⟩⟩ := h
    · refine go_start (σ' := [_, _]) rfl ?_
      walk_at "gm"
      refine go_isi (.own _) (tyIns (in_Promise S) hc) (kit_o_Promise__o_Promise__true S) ?_
      walk_at "gm"
      refine go_dec (fun q1 => ?_) (fun q1 => ?_)
      · walk_at "gm"
        refine go_dec (fun q2 => ?_) (fun q2 => ?_)
        · walk_at "gm"
          refine bl_of (R := fun v => Q v H) ?_ k
          cases q1
          simp [q2]
        · walk_at "gm"
          refine bl_of (R := fun v => Q v H) ?_ k
          simp [q2]
      · walk_at "gm"
        refine bl_of (R := fun v => Q v H) ?_ k
        have : z ≠ z2 := fun q => q1 (by rw [q])
        simp [this]
    · refine go_start (σ' := [_, _]) rfl ?_
      walk_at "gm"
      refine go_isi (.own _) h1 h2 ?_
      walk_at "gm"
      exact k
theorem op_Promise___eq__ {P : Program} {w : World} {base : Heap} (S : HD sys K mg) : Op P w K mg base CX0 1 (ga K "Promise") "__eq__" (spPrEq K) := ⟨_, _, _, (fk_op_Promise___eq__ S), (opf_Promise___eq__ S).1, (opf_Promise___eq__ S).2, b_Promise___eq__ S⟩
def spChkPr (K : PySem.W.Frag) : Sp := fun vs H Q E => ∃ v : V, vs = [v] ∧ ((∃ (c : Addr) (z : Str) (b t : Int), v = .ref c ∧ PrAt (ga K "Promise") H c z b t ∧ Q .non H) ∨ (NoPr K H v ∧ Er1 K "BadPromise" "part" (.str "promise") H E))
theorem fk_cl_check_promise {P : Program} {w : World} {base : Heap} (S : HD sys K mg) : FnOk P w K mg base (L2.CX P w) 3 (Pl.adr K (Pl.fn "check_promise")) (fdAt K (Pl.adr K (Pl.fn "check_promise"))) ["value"] (spChkPr K) := by
  refine (d_check_promise S).ok sc_check_promise (fun vs H Q E h => ?_) (fun cdv A outer s H vs Q E hr h => ?_)
  · repeat (first | (obtain ⟨rfl, _⟩ := h; rfl) | (obtain ⟨_, h⟩ := h))
  · have nd := sc_check_promise.nd
    refine ⟨_, ((pss_one (ps_if (pt_not (pt_val (pe_callB call_isi (by rfl) (n_isinstance S) (by decide +kernel) (pa_cons (pv 0) (pa_cons (pe_glob (v := .ref (ga K "Promise")) rfl (g_Promise S) rfl) pa_nil))))) (pss_one (ps_raise rfl (takes_of rfl rfl rfl rfl) (pmk_ex (ex_BadPromise S) hr (by decide) (pa_cons pe_str pa_nil)))) pss_nil))), ?_⟩
    try dsimp only [cxOf_K]
    obtain ⟨v, rfl, ⟨c, z, b, t, rfl, ⟨dx, hc⟩, k⟩ | ⟨⟨ty, h1, h2⟩, k⟩⟩ := h
    · refine go_start (σ' := [_]) rfl ?_
      walk_at "gm"
      refine go_isi (.own _) (tyIns (in_Promise S) hc) (kit_o_Promise__o_Promise__true S) ?_
      walk_at "gm"
      exact k
    · refine go_start (σ' := [_]) rfl ?_
      walk_at "gm"
      refine go_isi (.own _) h1 h2 ?_
      walk_at "gm"
      exact go_ex1 k.at
theorem cl_check_promise {P : Program} {w : World} {base : Heap} (S : HD sys K mg) : Cl P w K mg base (L2.CX P w) 3 "check_promise" (spChkPr K) := ⟨_, _, _, (fk_cl_check_promise S), g_check_promise S, (d_check_promise S).kp, b_check_promise S⟩
def spPrLe (K : PySem.W.Frag) : Sp := fun vs H Q E => ∃ (a : Addr) (v : V) (z : Str) (b t : Int), vs = [.ref a, v] ∧ PrAt (ga K "Promise") H a z b t ∧
  ((∃ (c : Addr) (z2 : Str) (b2 t2 : Int), v = .ref c ∧ PrAt (ga K "Promise") H c z2 b2 t2 ∧ Q (.bl (decide (z = z2 ∧ b = b2 ∧ t ≤ t2))) H) ∨ (NoPr K H v ∧ Er1 K "BadPromise" "part" (.str "promise") H E))
theorem fk_op_Promise___le__ {P : Program} {w : World} {base : Heap} (S : HD sys K mg) : FnOk P w K mg base (L2.CX P w) 4 (Pl.adr K (Pl.me "Promise" "__le__")) (fdAt K (Pl.adr K (Pl.me "Promise" "__le__"))) ["self", "other"] (spPrLe K) := by
  refine (d_Promise___le__ S).ok sc_Promise___le__ (fun vs H Q E h => ?_) (fun cdv A outer s H vs Q E hr h => ?_)
  · repeat (first | (obtain ⟨rfl, _⟩ := h; rfl) | (obtain ⟨_, h⟩ := h))
  · have nd := sc_Promise___le__.nd
    refine ⟨_, ((pss_cons (ps_expr (pe_f (cl_check_promise S) hr (by decide) (passes_call (takes_of rfl rfl rfl rfl) (fun _ _ _ _ h => h)) (pa_cons (pv 1) pa_nil)))
    (pss_one (ps_ret (pe_and (pe_cmpR op_eq (pe_fld (pv 0) rfl) (pe_fld (pv 1) rfl) (nomark _)) (pe_and (pe_cmpR op_eq (pe_fld (pv 0) rfl) (pe_fld (pv 1) rfl) (nomark _)) (pe_one (pe_cmpR op_le (pe_fld (pv 0) rfl) (pe_fld (pv 1) rfl) (nomark _))))))))), ?_⟩
    try dsimp only [cxOf_K]
    have cCPromise := C_Promise S
    have naPromisename := na_Promise_name S
    have naPromisebits := na_Promise_bits S
    have naPromiseticks := na_Promise_ticks S
    obtain ⟨a, v, z, b, t, rfl, ⟨dx, ha⟩, ⟨c, z2, b2, t2, rfl, ⟨dy, hc⟩, k⟩ | ⟨hn, k⟩⟩ := h
    · refine go_start (σ' := [_, _]) rfl ?_
      walk_at "gm"
      refine ⟨_, rfl, .inl ⟨c, z2, b2, t2, rfl, ⟨dy, hc⟩, ?_⟩⟩
      walk_at "gm"
      refine go_dec (fun q1 => ?_) (fun q1 => ?_)
      · walk_at "gm"
        refine go_dec (fun q2 => ?_) (fun q2 => ?_)
        · walk_at "gm"
          refine bl_of (R := fun v => Q v H) ?_ k
          cases q1
          simp [q2]
        · walk_at "gm"
          refine bl_of (R := fun v => Q v H) ?_ k
          simp [q2]
      · walk_at "gm"
        refine bl_of (R := fun v => Q v H) ?_ k
        have : z ≠ z2 := fun q => q1 (by rw [q])
        simp [this]
    · refine go_start (σ' := [_, _]) rfl ?_
      walk_at "gm"
      exact ⟨_, rfl, .inr ⟨hn, k⟩⟩
theorem op_Promise___le__ {P : Program} {w : World} {base : Heap} (S : HD sys K mg) : Op P w K mg base (L2.CX P w) 4 (ga K "Promise") "__le__" (spPrLe K) := ⟨_, _, _, (fk_op_Promise___le__ S), (opf_Promise___le__ S).1, (opf_Promise___le__ S).2, b_Promise___le__ S⟩
/-- the text of a promise -/
def strP (z : Str) (b t : Int) : Str := (((Str.empty ++ z) ++ " " ++ (toString b : Str)) ++ " ") ++ (toString t : Str)
def spPrStr (C : Addr) : Sp := fun vs H Q _ => ∃ (a : Addr) (z : Str) (b t : Int), vs = [.ref a] ∧ PrAt C H a z b t ∧ PrV z b t ∧ Q (.str (strP z b t)) H
theorem fk_op_Promise___str__ {P : Program} {w : World} {base : Heap} (S : HD sys K mg) : FnOk P w K mg base CX0 1 (Pl.adr K (Pl.me "Promise" "__str__")) (fdAt K (Pl.adr K (Pl.me "Promise" "__str__"))) ["self"] (spPrStr (ga K "Promise")) := by
  refine (d_Promise___str__ S).ok sc_Promise___str__ (fun vs H Q E h => ?_) (fun cdv A outer s H vs Q E hr h => ?_)
  · repeat (first | (obtain ⟨rfl, _⟩ := h; rfl) | (obtain ⟨_, h⟩ := h))
  · have nd := sc_Promise___str__.nd
    refine ⟨_, PSs.nox ((pss_one (ps_ret (pe_joined (.cons (pe_fmt (pe_fld (pv 0) rfl)) (.cons pe_str (.cons (pe_fmt (pe_fld (pv 0) rfl)) (.cons pe_str (.cons (pe_fmt (pe_fld (pv 0) rfl)) .nil))))))))), ?_⟩
    try dsimp only [cxOf_K]
    obtain ⟨a, z, b, t, rfl, ⟨dx, ha⟩, V, k⟩ := h
    have b0 := V.b0
    have b1 := V.b1
    have t0 := V.t0
    have t1 := V.t1
    have l0 := name_len V.name
    have l1 := len_num (i := b) (by omega) (by omega)
    have l2 := len_num (i := t) (by omega) (by omega)
    have cCPromise := C_Promise S
    have naPromisename := na_Promise_name S
    have naPromisebits := na_Promise_bits S
    have naPromiseticks := na_Promise_ticks S
    refine go_start (σ' := [_]) rfl ?_
    walk_at "gm"
    refine fmt_str (by omega) ?_
    refine go_jsx (by show 0 + _ ≤ _; omega) ?_
    walk_at "gm"
    refine go_jsx (by rw [PySem.Str.length_append]; show 0 + _ + 1 ≤ _; omega) ?_
    walk_at "gm"
    refine fmt_int (log_num (by omega) (by omega)) ?_
    refine go_jsx (by rw [PySem.Str.length_append, PySem.Str.length_append]; show 0 + _ + 1 + _ ≤ _; omega) ?_
    walk_at "gm"
    refine go_jsx (by rw [PySem.Str.length_append, PySem.Str.length_append, PySem.Str.length_append]; show 0 + _ + 1 + _ + 1 ≤ _; omega) ?_
    walk_at "gm"
    refine fmt_int (log_num (by omega) (by omega)) ?_
    refine go_jsx (by rw [PySem.Str.length_append, PySem.Str.length_append, PySem.Str.length_append, PySem.Str.length_append]; show 0 + _ + 1 + _ + 1 + _ ≤ _; omega) ?_
    walk_at "gm"
    exact k
theorem op_Promise___str__ {P : Program} {w : World} {base : Heap} (S : HD sys K mg) : Op P w K mg base CX0 1 (ga K "Promise") "__str__" (spPrStr (ga K "Promise")) := ⟨_, _, _, (fk_op_Promise___str__ S), (opf_Promise___str__ S).1, (opf_Promise___str__ S).2, b_Promise___str__ S⟩
theorem name_aft {w : Str} (h : isName w = true) : NameAft "" w := by
  refine ⟨h, ?_⟩
  unfold isName at h
  simp only [Bool.and_eq_true] at h
  have h2 := h.2.2.1
  unfold Txt.isalpha at h2
  have h3 : 0 < w.length := of_decide_eq_true (Bool.and_eq_true_iff.mp h2).1
  rw [TL.len_tl] at h3
  obtain ⟨c, r, e⟩ := List.exists_cons_of_length_pos h3
  have e1 : ("" : Str).cps.toList = [] := by decide +kernel
  rw [e1, show w.cps.toList = c :: r from e]
  exact List.nil_lt_cons c r
/-- what reading tells -/
def ReadsP (ws : List Str) (k : Str → Int → Int → Prop) (er : Nat → Prop) : Prop :=
  (∀ w, ws[0]? = some w → isName w = true → (∀ w1, ws[1]? = some w1 → Tells w1 1 1000000000000000000000000000000000000000000000000000000000000 → (∀ w2, ws[2]? = some w2 → Tells w2 0 1000000000000000000000000000000000000000000000000000000000000 → (ws.length = 3 → k w (valW w1) (valW w2)) ∧ (3 < ws.length → er 3)) ∧
    ((∀ w2, ws[2]? = some w2 → ¬ Tells w2 0 1000000000000000000000000000000000000000000000000000000000000) → er 2)) ∧ ((∀ w1, ws[1]? = some w1 → ¬ Tells w1 1 1000000000000000000000000000000000000000000000000000000000000) → er 1)) ∧ ((∀ w, ws[0]? = some w → isName w = false) → er 0)
abbrev ErW0 (K : PySem.W.Frag) (n : Nat) (H : Hp) (E : XK) : Prop := Er2 K "BadText" "line" "word" (.int 0) (.int (n : Nat)) H E
theorem er0 {n : Nat} {H : Hp} {E : XK} (h : ErW0 K n H E) : ErW K 0 0 n H E := by
  unfold ErW
  rw [Int.zero_add]
  exact h
def spPrRead (K : PySem.W.Frag) : Sp := fun vs H Q E => ∃ v : V, vs = [.ref (ga K "Promise"), v] ∧ ((∃ z : Str, v = .str z ∧ z.length ≤ 1000000 ∧ (Txt.split z " ").length ≤ 100000 ∧ (∀ w ∈ Txt.split z " ", w.length ≤ 1000000) ∧
  ReadsP (Txt.split z " ") (fun w b t => ∀ a H', Same H H' → PrAt (ga K "Promise") H' a w b t → Q (.ref a) H') (fun n => ∀ H', Same H H' → ErW0 K n H' E)) ∨ (NoStr K H v ∧ Er2 K "BadText" "line" "word" (.int 0) (.int 0) H E))
theorem fk_cm_Promise_read {P : Program} {w : World} {base : Heap} (S : HD sys K mg) : FnOk P w K mg base (L2.CX P w) 5 (Pl.adr K (Pl.cm "Promise" "read")) (fdAt K (Pl.adr K (Pl.cm "Promise" "read"))) ["cls", "text"] (spPrRead K) := by
  refine (d_Promise_read S).ok sc_Promise_read (fun vs H Q E h => ?_) (fun cdv A outer s H vs Q E hr h => ?_)
  · repeat (first | (obtain ⟨rfl, _⟩ := h; rfl) | (obtain ⟨_, h⟩ := h))
  · have nd := sc_Promise_read.nd
    refine ⟨_, ((pss_cons (ps_set (i := 2) nd rfl (Or.inl rfl) (pe_fd (cld_words_of_1 S) hr (by decide) (passes_call (takes_of rfl rfl rfl rfl) (fun _ _ _ _ h => h)) (pa_cons (pv 1) pa_nil)))
    (pss_cons (ps_set (i := 3) nd rfl (Or.inl rfl) (pe_me (me_Words_take_name S) hr (by decide) (passes_call (takes_of rfl rfl rfl rfl) (fun _ _ _ _ h => h)) (pv 2) (pa_cons pe_str pa_nil)))
    (pss_cons (ps_set (i := 4) nd rfl (Or.inl rfl) (pe_me (me_Words_take_number S) hr (by decide) (passes_call (takes_of rfl rfl rfl rfl) (fun _ _ _ _ h => h)) (pv 2) (pa_cons pe_int (pa_cons (pe_glob (v := .int 1000000000000000000000000000000000000000000000000000000000000) rfl (i_MOST_NUMBER S).choose_spec ⟨_, rfl⟩) pa_nil))))
    (pss_cons (ps_set (i := 5) nd rfl (Or.inl rfl) (pe_me (me_Words_take_number S) hr (by decide) (passes_call (takes_of rfl rfl rfl rfl) (fun _ _ _ _ h => h)) (pv 2) (pa_cons pe_int (pa_cons (pe_glob (v := .int 1000000000000000000000000000000000000000000000000000000000000) rfl (i_MOST_NUMBER S).choose_spec ⟨_, rfl⟩) pa_nil))))
    (pss_cons (ps_expr (pe_me0 (me_Words_take_end S) hr (by decide) (passes_call (takes_of rfl rfl rfl rfl) (fun _ _ _ _ h => h)) (pv 2)))
    (pss_one (ps_ret (pe_mkeL (i := 0) (mke_Promise S) hr (by decide) (passes_call (takes_of rfl rfl rfl rfl) (fun _ _ _ _ h => h)) rfl (pa_cons (pv 3) (pa_cons (pv 4) (pa_cons (pv 5) pa_nil)))))))))))), ?_⟩
    try dsimp only [cxOf_K]
    obtain ⟨v, rfl, ⟨z, rfl, hz, hs, hw, k⟩ | ⟨hn, k⟩⟩ := h
    · refine go_start (σ' := [_, _, none, none, none, none]) rfl ?_
      obtain ⟨k0, k0'⟩ := k
      walk_at "gm"
      refine ⟨_, 0, rfl, .inl ⟨z, rfl, hz, hs, fun a l H1 na s1 W => ?_⟩⟩
      obtain ⟨dx, ha⟩ := W.1
      walk_at "gm"
      refine ⟨a, l, _, 0, 0, 0, "", rfl, W, ⟨Nat.zero_le _, hs, hw⟩, fun w hw0 t0 H2 kp2 W2 => ?_, fun h => er0 (k0' (fun w hw => by
        cases e : isName w with
        | false => rfl
        | true => exact absurd (name_aft e) (h w hw)) H1 s1)⟩
      obtain ⟨k1, k1'⟩ := k0 w hw0 t0.1
      have n1 := (List.getElem?_eq_some_iff.mp hw0).1
      have s2 : Same H H2 := fun b o h => kp2 b o (s1 b o h) (ne_of_none h na)
      obtain ⟨dx2, ha2⟩ := W2.1
      walk_at "gm"
      refine ⟨a, l, _, 0, 0, 1, 1, 1000000000000000000000000000000000000000000000000000000000000, rfl, W2, ⟨n1, hs, hw⟩, by decide, fun w1 hw1 t1 H3 kp3 W3 => ?_, fun h => er0 (k1' h H2 s2)⟩
      obtain ⟨k2, k2'⟩ := k1 w1 hw1 t1
      have n2 := (List.getElem?_eq_some_iff.mp hw1).1
      have s3 : Same H H3 := fun b o h => kp3 b o (s2 b o h) (ne_of_none h na)
      obtain ⟨dx3, ha3⟩ := W3.1
      walk_at "gm"
      refine ⟨a, l, _, 0, 0, 2, 0, 1000000000000000000000000000000000000000000000000000000000000, rfl, W3, ⟨n2, hs, hw⟩, by decide, fun w2 hw2 t2 H4 kp4 W4 => ?_, fun h => er0 (k2' h H3 s3)⟩
      obtain ⟨k3, k3'⟩ := k2 w2 hw2 t2
      have n3 := (List.getElem?_eq_some_iff.mp hw2).1
      have s4 : Same H H4 := fun b o h => kp4 b o (s3 b o h) (ne_of_none h na)
      obtain ⟨dx4, ha4⟩ := W4.1
      walk_at "gm"
      refine ⟨a, l, _, 0, 0, 3, rfl, W4, n3, fun e3 => ?_, fun h => er0 (k3' h H4 s4)⟩
      walk_at "gm"
      refine pr_make ⟨t0.1, t1.2.2.1, t1.2.2.2, t2.2.2.1, t2.2.2.2⟩ fun x H5 nx s5 hx => ?_
      exact k3 e3.symm x H5 (s4.trans s5) hx
    · refine go_start (σ' := [_, _, none, none, none, none]) rfl ?_
      walk_at "gm"
      exact ⟨_, 0, rfl, .inr ⟨hn, k⟩⟩
theorem cm_Promise_read {P : Program} {w : World} {base : Heap} (S : HD sys K mg) : Cm P w K mg base (L2.CX P w) 5 (ga K "Promise") "read" (spPrRead K) := ⟨_, _, _, _, (fk_cm_Promise_read S), cr_Promise S, cme_Promise_read S, b_Promise_read S⟩
def kgf_cmk_Promise_read_text {α : Type} (a c : List α) : List α := match a, c with | [s0], [k0] => [s0, k0] | _, _ => []
theorem cmk_Promise_read_text {P : Program} {w : World} {base : Heap} (S : HD sys K mg) : CmK P w K mg base (L2.CX P w) 5 (ga K "Promise") "read" (spPrRead K) ["text"] (fun vs zs => kgf_cmk_Promise_read_text vs zs) := by
  have b := (d_Promise_read S).kbindsP (ps := ["cls", "text"]) 1 ["text"] (fun {_} a c => kgf_cmk_Promise_read_text a c) (fun r1 r3 => by
      rcases r1 with _ | ⟨a1, _ | ⟨_, _⟩⟩ <;> rcases r3 with _ | ⟨c0, _ | ⟨_, _⟩⟩ <;> first | exact .nil | skip
      exact .cons a1 (.cons c0 (.nil)))
    (fun kV doc pm an cdv ct us ws h1 h3 => match us, h1, ws, h3 with | [_], _, [_], _ => rfl)
  exact ⟨_, _, _, _, _, (fk_cm_Promise_read S), cr_Promise S, cme_Promise_read S, b⟩
theorem fk_cl__law_pen {P : Program} {w : World} {base : Heap} (S : HD sys K mg) : FnOk P w K mg base CX0 1 (Pl.adr K (Pl.fn "_law_pen")) (fdAt K (Pl.adr K (Pl.fn "_law_pen"))) ["_law_script"] (spPn K) := by
  refine (d__law_pen S).ok sc__law_pen (fun vs H Q E h => ?_) (fun cdv A outer s H vs Q E hr h => ?_)
  · repeat (first | (obtain ⟨rfl, _⟩ := h; rfl) | (obtain ⟨_, h⟩ := h))
  · have nd := sc__law_pen.nd
    refine ⟨_, PSs.nox ((pss_one (ps_ret (pe_lst (pa_cons (pe_callTy call_list_of (by rfl) (n_list S) (by decide +kernel) (pa_cons (pe_slice sl_list (pv 0) po_none (po_some pe_int)) pa_nil)) (pa_cons pe_int (pa_cons pe_int pa_nil))))))), ?_⟩
    try dsimp only [cxOf_K]
    obtain ⟨a, ns, rfl, hS, k⟩ := h
    refine go_start (σ' := [_]) rfl ?_
    walk_at "go"
    intro l nl
    walk_at "go"
    intro c nc
    walk_at "go"
    intro p np
    have e : (cutV (ns.map V.int) none (some 63)) = (ns.take 63).map V.int := (cut_upto (ns.map V.int) 63).trans List.map_take.symm
    rw [e] at nc np ⊢
    refine k _ c _ ⟨ns.take 63, 0, 0, upd_same, upd_keep np upd_same, ?_, Int.le_refl _, Int.le_refl _, ne_of_none upd_same np⟩ ?_ ?_ ?_
    · rw [List.length_take]
      omega
    · exact ((Same.new nl).trans (Same.new nc)).trans (Same.new np)
    · exact ((Same.new nl).trans (Same.new nc)).free np
    · exact (Same.new nl).free nc
theorem cl__law_pen {P : Program} {w : World} {base : Heap} (S : HD sys K mg) : Cl P w K mg base CX0 1 "_law_pen" (spPn K) := ⟨_, _, _, (fk_cl__law_pen S), g__law_pen S, (d__law_pen S).kp, b__law_pen S⟩
theorem fk_cl__law_draw {P : Program} {w : World} {base : Heap} (S : HD sys K mg) : FnOk P w K mg base CX0 1 (Pl.adr K (Pl.fn "_law_draw")) (fdAt K (Pl.adr K (Pl.fn "_law_draw"))) ["_law_pen_here", "_law_many"] (spDr) := by
  refine (d__law_draw S).ok sc__law_draw (fun vs H Q E h => ?_) (fun cdv A outer s H vs Q E hr h => ?_)
  · repeat (first | (obtain ⟨rfl, _⟩ := h; rfl) | (obtain ⟨_, h⟩ := h))
  · have nd := sc__law_draw.nd
    refine ⟨_, PSs.nox ((pss_cons (ps_if (pt_cmpR op_gt (pe_ix ix_list (pv 0) pe_int (fun _ _ => rfl)) pe_int (nomark _)) (pss_cons (ps_set (i := 2) nd rfl (Or.inl rfl) (pe_op op_mod (pe_callTy call_int1 (by rfl) (n_int S) (by decide +kernel) (pa_cons (pe_ix ix_list (pv 0) pe_int (fun _ _ => rfl)) pa_nil)) (pv 1)))
    (pss_cons (ps_asg (pe_op op_fdivW (pe_callTy call_int1 (by rfl) (n_int S) (by decide +kernel) (pa_cons (pe_ix ix_list (pv 0) pe_int (fun _ _ => rfl)) pa_nil)) (pv 1)) (pg_sub (pv 0) pe_int set_list))
    (pss_one (ps_ret (pv 2))))) pss_nil)
    (pss_cons (ps_set (i := 3) nd rfl (Or.inl rfl) (pe_ix ix_list (pv 0) pe_int (fun _ _ => rfl)))
    (pss_cons (ps_asg (pe_op op_add (pv 3) pe_int) (pg_sub (pv 0) pe_int set_list))
    (pss_cons (ps_set (i := 4) nd rfl (Or.inl rfl) (pe_op op_add (pe_op op_mul pe_int (pv 3)) pe_int))
    (pss_cons (ps_if (pt_cmpR (op_neD hr.units) (pe_ix ix_list (pv 0) pe_int (fun _ _ => rfl)) (pe_lst pa_nil) (nomark _)) (pss_one (ps_set (i := 4) nd rfl (Or.inl rfl) (pe_ix ix_list (pe_ix ix_list (pv 0) pe_int (fun _ _ => rfl)) (pe_op op_mod (pe_callTy call_int1 (by rfl) (n_int S) (by decide +kernel) (pa_cons (pv 3) pa_nil)) (pe_callB call_len_seq (by rfl) (n_len S) (by decide +kernel) (pa_cons (pe_ix ix_list (pv 0) pe_int (fun _ _ => rfl)) pa_nil))) (fun _ _ => rfl)))) pss_nil)
    (pss_cons (ps_if (PW.pt (pw_and (pt_cmpR op_lt (pv 3) (pe_callB call_len_seq (by rfl) (n_len S) (by decide +kernel) (pa_cons (pe_ix ix_list (pv 0) pe_int (fun _ _ => rfl)) pa_nil)) (nomark _)) (pw_and1 (pt_cmpR op_ge (pe_callB call_abs (by rfl) (n_abs S) (by decide +kernel) (pa_cons (pv 4) pa_nil)) (pe_op op_pow pe_int pe_int) (nomark _))))) (pss_cons (ps_set (i := 5) nd rfl (Or.inl rfl) (pe_op op_add (pe_op op_mul pe_int (pe_op op_sub (pe_callB call_abs (by rfl) (n_abs S) (by decide +kernel) (pa_cons (pv 4) pa_nil)) (pe_op op_pow pe_int pe_int))) (pe_callTy call_int1 (by rfl) (n_int S) (by decide +kernel) (pa_cons (pe_cmpR op_lt (pv 4) pe_int (nomark _)) pa_nil))))
    (pss_cons (ps_asg (pe_op op_fdivW (pe_callTy call_int1 (by rfl) (n_int S) (by decide +kernel) (pa_cons (pv 5) pa_nil)) (pv 1)) (pg_sub (pv 0) pe_int set_list))
    (pss_one (ps_ret (pe_op op_mod (pe_callTy call_int1 (by rfl) (n_int S) (by decide +kernel) (pa_cons (pv 5) pa_nil)) (pv 1)))))) pss_nil)
    (pss_cons (ps_set (i := 6) nd rfl (Or.inl rfl) (pe_op op_mod (pe_callTy call_int1 (by rfl) (n_int S) (by decide +kernel) (pa_cons (pe_op op_pow (pe_op op_add (pe_op op_add (pe_op op_mod (pe_callTy call_int1 (by rfl) (n_int S) (by decide +kernel) (pa_cons (pv 4) pa_nil)) pe_int) (pe_op op_mul pe_int (pv 3))) pe_int) pe_int) pa_nil)) pe_int))
    (pss_cons (ps_set (i := 6) nd rfl (Or.inl rfl) (pe_op op_mod (pe_callTy call_int1 (by rfl) (n_int S) (by decide +kernel) (pa_cons (pe_op op_pow (pe_op op_add (pe_op op_add (pe_op op_mul (pv 6) (pe_op op_add (pe_op op_mul pe_int (pv 3)) pe_int)) (pe_op op_mul (pe_op op_mul pe_int (pv 3)) (pv 3))) pe_int) pe_int) pa_nil)) pe_int))
    (pss_one (ps_ret (pe_op op_mod (pe_callTy call_int1 (by rfl) (n_int S) (by decide +kernel) (pa_cons (pe_op op_fdiv (pv 6) pe_int) pa_nil)) (pv 1))))))))))))), ?_⟩
    try dsimp only [cxOf_K]
    obtain ⟨p, c, m, n, rfl, hm, hm2, ⟨ns, b, g, hp, hc, hn, b0, b1, cp⟩, hn2, k⟩ := h
    refine go_start (σ' := [_, _, none, none, none, none, none]) rfl ?_
    walk_at "go"
    refine go_dec (fun hg => ?_) (fun hg => ?_)
    · walk_at "go"
      refine k _ _ (Int.emod_nonneg _ (by omega)) (Int.emod_lt_of_pos _ hm) ⟨ns, b, g / m, upd_same, (upd_ne cp).trans hc, hn, b0, by omega, cp⟩ Kp.put
    · walk_at "go"
      intro q nq
      have hp1 : upd (upd H p (.lst [.ref c, .int (b + 1), .int g])) q (.lst []) p = some (.lst [.ref c, .int (b + 1), .int g]) := upd_keep nq upd_same
      have k1 : Kp p H (upd (upd H p (.lst [.ref c, .int (b + 1), .int g])) q (.lst [])) := Kp.put.trans (Kp.new nq)
      have hc1 := k1 _ _ hc cp
      have en : upd (upd H p (.lst [.ref c, .int (b + 1), .int g])) q (.lst []) q = some (.lst (([] : List Int).map V.int)) := upd_same
      refine go_neInts (SqL.of hc1) (SqL.of en) ?_
      generalize upd (upd H p (.lst [.ref c, .int (b + 1), .int g])) q (.lst []) = H1 at hp1 k1 hc1 ⊢
      walk_at "go"
      refine go_ndec (fun hns => ?_) (fun hns => ?_)
      · have hl : 0 < (ns.map V.int).length := by
          rw [List.length_map]
          exact List.length_pos_iff.mpr hns
        walk_at "go"
        obtain ⟨v, e, hv⟩ := atI_mod (xs := ns.map V.int) (Int.emod_nonneg b (by omega)) (Int.emod_lt_of_pos b (by omega))
        obtain ⟨z, hz, rfl⟩ := List.mem_map.mp hv
        refine go_ixl (SqL.of hc1) e ?_
        walk_at "go"
        refine go_dec (fun h1 => ?_) (fun h1 => ?_)
        · walk_at "go"
          refine go_dec (fun h2 => ?_) (fun h2 => ?_)
          · walk_at "go"
            refine k _ _ (Int.emod_nonneg _ (by omega)) (Int.emod_lt_of_pos _ hm) ⟨ns, b + 1, _, upd_same, (upd_ne cp).trans hc1, hn, by omega, by omega, cp⟩ (k1.trans Kp.put)
          · walk_at "go"
            refine go_i ⟨by decide, by decide, mixOk (Int.emod_nonneg _ (by decide)) (Int.lt_of_lt_of_le (Int.emod_lt_of_pos _ (by decide)) (by decide)) b0 (by omega) (by decide) (by decide) (by decide) (by decide) (by decide) (by decide)⟩ ?_
            walk_at "go"
            exact k _ _ (Int.emod_nonneg _ (by omega)) (Int.emod_lt_of_pos _ hm) ⟨ns, b + 1, g, hp1, hc1, hn, by omega, by omega, cp⟩ k1
        · walk_at "go"
          refine go_i ⟨by decide, by decide, mixOk (Int.emod_nonneg _ (by decide)) (Int.lt_of_lt_of_le (Int.emod_lt_of_pos _ (by decide)) (by decide)) b0 (by omega) (by decide) (by decide) (by decide) (by decide) (by decide) (by decide)⟩ ?_
          walk_at "go"
          exact k _ _ (Int.emod_nonneg _ (by omega)) (Int.emod_lt_of_pos _ hm) ⟨ns, b + 1, g, hp1, hc1, hn, by omega, by omega, cp⟩ k1
      · generalize 39119 * b + 823 = z
        walk_at "go"
        refine go_dec (fun h1 => ?_) (fun h1 => ?_)
        · walk_at "go"
          refine go_dec (fun h2 => ?_) (fun h2 => ?_)
          · walk_at "go"
            refine k _ _ (Int.emod_nonneg _ (by omega)) (Int.emod_lt_of_pos _ hm) ⟨ns, b + 1, _, upd_same, (upd_ne cp).trans hc1, hn, by omega, by omega, cp⟩ (k1.trans Kp.put)
          · walk_at "go"
            refine go_i ⟨by decide, by decide, mixOk (Int.emod_nonneg _ (by decide)) (Int.lt_of_lt_of_le (Int.emod_lt_of_pos _ (by decide)) (by decide)) b0 (by omega) (by decide) (by decide) (by decide) (by decide) (by decide) (by decide)⟩ ?_
            walk_at "go"
            exact k _ _ (Int.emod_nonneg _ (by omega)) (Int.emod_lt_of_pos _ hm) ⟨ns, b + 1, g, hp1, hc1, hn, by omega, by omega, cp⟩ k1
        · walk_at "go"
          refine go_i ⟨by decide, by decide, mixOk (Int.emod_nonneg _ (by decide)) (Int.lt_of_lt_of_le (Int.emod_lt_of_pos _ (by decide)) (by decide)) b0 (by omega) (by decide) (by decide) (by decide) (by decide) (by decide) (by decide)⟩ ?_
          walk_at "go"
          exact k _ _ (Int.emod_nonneg _ (by omega)) (Int.emod_lt_of_pos _ hm) ⟨ns, b + 1, g, hp1, hc1, hn, by omega, by omega, cp⟩ k1
theorem cl__law_draw {P : Program} {w : World} {base : Heap} (S : HD sys K mg) : Cl P w K mg base CX0 1 "_law_draw" (spDr) := ⟨_, _, _, (fk_cl__law_draw S), g__law_draw S, (d__law_draw S).kp, b__law_draw S⟩
theorem fk_cl__law_pick {P : Program} {w : World} {base : Heap} (S : HD sys K mg) : FnOk P w K mg base CX0 2 (Pl.adr K (Pl.fn "_law_pick")) (fdAt K (Pl.adr K (Pl.fn "_law_pick"))) ["_law_pen_here", "_law_some"] (spPk K) := by
  refine (d__law_pick S).ok sc__law_pick (fun vs H Q E h => ?_) (fun cdv A outer s H vs Q E hr h => ?_)
  · repeat (first | (obtain ⟨rfl, _⟩ := h; rfl) | (obtain ⟨_, h⟩ := h))
  · have nd := sc__law_pick.nd
    refine ⟨_, PSs.nox ((pss_one (ps_ret (pe_ix ix_seq (pv 1) (pe_f (cl__law_draw S) hr (by decide) pass0 (pa_cons (pv 0) (pa_cons (pe_callB call_len_seq (by rfl) (n_len S) (by decide +kernel) (pa_cons (pv 1) pa_nil)) pa_nil))) (fun _ _ => rfl))))), ?_⟩
    try dsimp only [cxOf_K]
    obtain ⟨p, c, a, xs, n, rfl, ha, hx, hl, ap, hP, hn, k⟩ := h
    refine go_start (σ' := [_, _]) rfl ?_
    walk_at "go"
    have hx' : 0 < xs.length := List.length_pos_iff.mpr hx
    refine ⟨p, c, xs.length, n, rfl, by omega, by omega, hP, hn, fun i H' h0 h1 hP' hk => ?_⟩
    obtain ⟨v, e, hv⟩ := atI_mod h0 h1
    have fin := k v H' hv hP' hk
    rcases ha with ha | ha
    · exact .inl ⟨a, xs, i, v, rfl, rfl, hk.seqL ha ap, e, fin⟩
    · exact .inr (.inl ⟨a, xs, i, v, rfl, rfl, hk.seqT ha ap, e, fin⟩)
theorem cl__law_pick {P : Program} {w : World} {base : Heap} (S : HD sys K mg) : Cl P w K mg base CX0 2 "_law_pick" (spPk K) := ⟨_, _, _, (fk_cl__law_pick S), g__law_pick S, (d__law_pick S).kp, b__law_pick S⟩
/-! ### who is asked, and what is refused -/
def THeard (K : PySem.W.Frag) : (XK → Hp → VK → Prop) → Hp → VK → Prop := fun tl H Q => ∀ R : VK,
  tl (fun cls d H' => (∃ dd v, cls = .ref (ga K "BadPromise") ∧ d = some dd ∧ H' dd = some (.xd [("part", v)]) ∧ ∀ H'', Same H' H'' → Q v H'') ∨
    ∃ dd v w, cls = .ref (ga K "BadText") ∧ d = some dd ∧ H' dd = some (.xd [("word", w), ("line", v)]) ∧ ∀ p H'', Same H' H'' → H'' p = some (.tup [v, w]) → Q (.ref p) H'') H R
theorem refused_gives {X : Cx} (S : HD sys X.K X.mg) {g : Addr} {cdg : Value} {q : Str} :
    LamX.GivesTo X ["_law_call_so", "_law_caught", "error"] "_law_refused" (defScope s__law_refused) g cdg (defBody s__law_refused) "_law_call_so" q (THeard X.K) := by
  intro f c' s H Q tl act hc h
  have nd := sc__law_refused.nd
  refine ⟨_, pss_cons (ps_set (i := 1) nd rfl (Or.inl rfl) pe_non)
    (pss_cons (ps_try_keep (i := 2) (c := .ref (ga X.K "CreditError")) (Wout := fun _ _ _ _ => False) (tb := fun W D σ H => ∃ Ech : XK, (∀ cls d σ' H', Ech cls d H' → σ'.length = 3 → W cls d σ' H') ∧ tDrop (tAskT f c' q (tl Ech)) D σ H)
      rfl rfl rfl nd rfl rfl ⟨rfl, by decide, .inl (g_CreditError S)⟩ LamX.takes0 (fun W pn xe tk _ => ⟨fun pins s' σ H' D I h' => ?_⟩) (fun a oe cls d pn _ _ => pss_one (ps_set (i := 1) nd rfl (Or.inl rfl) (pv 2))))
    (pss_cons (ps_if (pt_val (pe_callB call_isX (by rfl) (n_isinstance S) (by decide +kernel) (pa_cons (pv 1) (pa_cons (pe_glob (v := .ref (ga X.K "BadPromise")) rfl (g_BadPromise S) rfl) pa_nil)))) (pss_one (ps_ret (pe_xk (pv 1)))) pss_nil)
    (pss_one (ps_ret (pe_ifExp (pt_val (pe_callB call_isX (by rfl) (n_isinstance S) (by decide +kernel) (pa_cons (pv 1) (pa_cons (pe_glob (v := .ref (ga X.K "BadText")) rfl (g_BadText S) rfl) pa_nil)))) (pe_tup (pa_cons (pe_xk (pv 1)) (pa_cons (pe_xk (pv 1)) pa_nil))) pe_non))))), ?_⟩
  · obtain ⟨Ech, hW, h3⟩ := h'
    have hp := fun p1 p2 => act (fun cls d σ H => σ.length = 3 → W cls d σ H) pn xe Ech p1 p2 (takes_len tk) hW
    exact (pss_one (ps_expr (hp _ _))).run pins s' σ H' D I h3
  · refine go_start (σ' := [_, none, none]) rfl ?_
    walk_at "gm"
    refine ⟨_, ?_, ⟨rfl, hc, h _⟩⟩
    rintro cls d σ' H' (⟨dd, v, rfl, rfl, hd, k⟩ | ⟨dd, v, w, rfl, rfl, hd, k⟩) hl
    · refine ⟨true, exm_BadPromise__CreditError__true S, fun _ a na => ?_, fun z => by cases z⟩
      have s2 : (σ'.set 2 (some (V.ref a)))[2]? = some (some (V.ref a)) := slot_set hl (by decide)
      refine go_asg (go_var s2 ?_)
      refine go_name rfl ?_
      have s1 : (((σ'.set 2 (some (V.ref a))).set 1 (some (V.ref a))).set 2 none)[1]? = some (some (V.ref a)) :=
        slot_past (slot_set (n := 3) (by rw [List.length_set]; exact hl) (by decide)) (by decide)
      have hx : upd H' a (ExK (.ref (ga X.K "BadPromise")) (some dd) a) a = some (ExK (.ref (ga X.K "BadPromise")) (some dd) a) := upd_same
      have hd' : upd H' a (ExK (.ref (ga X.K "BadPromise")) (some dd) a) dd = some (.xd [("part", v)]) := upd_keep na hd
      walk_at "gm"
      refine go_var s1 ?_
      walk_at "gm"
      refine go_isx hx hd' (exb_BadPromise S).2.1 (.own _) (kit_o_BadPromise__o_BadPromise__true S) ?_
      walk_at "gm"
      refine go_xk (go_var s1 ?_)
      exact go_xkx hx (exb_BadPromise S).1 (na_BadPromise_part S) hd' lk_here (k _ (Same.new na))
    · refine ⟨true, exm_BadText__CreditError__true S, fun _ a na => ?_, fun z => by cases z⟩
      have s2 : (σ'.set 2 (some (V.ref a)))[2]? = some (some (V.ref a)) := slot_set hl (by decide)
      refine go_asg (go_var s2 ?_)
      refine go_name rfl ?_
      have s1 : (((σ'.set 2 (some (V.ref a))).set 1 (some (V.ref a))).set 2 none)[1]? = some (some (V.ref a)) :=
        slot_past (slot_set (n := 3) (by rw [List.length_set]; exact hl) (by decide)) (by decide)
      have hx : upd H' a (ExK (.ref (ga X.K "BadText")) (some dd) a) a = some (ExK (.ref (ga X.K "BadText")) (some dd) a) := upd_same
      have hd' : upd H' a (ExK (.ref (ga X.K "BadText")) (some dd) a) dd = some (.xd [("word", w), ("line", v)]) := upd_keep na hd
      walk_at "gm"
      refine go_var s1 ?_
      walk_at "gm"
      refine go_isx hx hd' (exb_BadText S).2.1 (.own _) (kit_o_BadText__o_BadPromise__false S) ?_
      walk_at "gm"
      refine go_var s1 ?_
      walk_at "gm"
      refine go_isx hx hd' (exb_BadText S).2.1 (.own _) (kit_o_BadText__o_BadText__true S) ?_
      walk_at "gm"
      refine go_xk (go_var s1 ?_)
      refine go_xkx hx (exb_BadText S).1 (na_BadText_line S) hd' (by walk_at "lk") ?_
      walk_at "gm"
      refine go_xk (go_var s1 ?_)
      refine go_xkx hx (exb_BadText S).1 (na_BadText_word S) hd' lk_here ?_
      walk_at "gm"
      rename_i p H2 np s2 hp
      exact k p H2 ((Same.new na).trans s2) hp
theorem ref_part {σ : L2.St} {H : Hp} {Q : VK} {T : List (Addr × Str)} {t : XK → TE} (v : V) (hT : LamX.Tabs T H)
    (h : ∀ H1 (E : XK) (Q' : VK), LamX.ExtN H H1 → LamX.Tabs T H1 → Er1 K "BadPromise" "part" v H1 E → t E σ H1 Q') (k : ∀ H', LamX.ExtN H H' → LamX.Tabs T H' → Q v H') : LamX.tLam T (THeard K) t σ H Q := by
  refine go_lam hT fun H1 e1 T1 => ?_
  intro R
  refine h H1 _ R e1 T1 fun d H2 nd s2 hd => .inl ?_
  exact ⟨d, _, rfl, rfl, hd, fun H3 s3 => k H3 (e1.trans (LamX.ExtN.of (s2.trans s3))) (tabs_same (tabs_same T1 s2) s3)⟩
theorem ref_text {σ : L2.St} {H : Hp} {Q : VK} {T : List (Addr × Str)} {t : XK → TE} (v w : V) (hT : LamX.Tabs T H)
    (h : ∀ H1 (E : XK) (Q' : VK), LamX.ExtN H H1 → LamX.Tabs T H1 → Er2 K "BadText" "line" "word" v w H1 E → t E σ H1 Q') (k : ∀ p H', LamX.ExtN H H' → LamX.Tabs T H' → H' p = some (.tup [v, w]) → Q (.ref p) H') : LamX.tLam T (THeard K) t σ H Q := by
  refine go_lam hT fun H1 e1 T1 => ?_
  intro R
  refine h H1 _ R e1 T1 fun d H2 nd s2 hd => .inr ?_
  exact ⟨d, _, _, rfl, rfl, hd, fun p H3 s3 hp => k p H3 (e1.trans (LamX.ExtN.of (s2.trans s3))) (tabs_same (tabs_same T1 s2) s3) hp⟩
/-! ### the law's parts -/
theorem perm_erase {α : Type} {xs : List α} {j : Nat} {y : α} (h : xs[j]? = some y) : (y :: xs.eraseIdx j).Perm xs := by
  induction xs generalizing j with
  | nil => cases h
  | cons x xs ih =>
    cases j with
    | zero =>
      cases h
      exact List.Perm.refl _
    | succ j => exact (List.Perm.swap x y _).trans ((ih h).cons x)
def spMixed : Sp := fun vs H Q _ => ∃ (p c a : Addr) (xs : List V) (n : Nat), vs = [.ref p, .ref a] ∧ Pn H p c n ∧ n < 600000 ∧ H a = some (.lst xs) ∧ a ≠ p ∧ xs.length ≤ 100 ∧
  ∀ q ys H', H q = none → H' q = some (.lst ys) → ys.Perm xs → Pn H' p c (n + xs.length) → Kp p H H' → Q (.ref q) H'
theorem fk_cl__law_mixed {P : Program} {w : World} {base : Heap} (S : HD sys K mg) : FnOk P w K mg base CX0 2 (Pl.adr K (Pl.fn "_law_mixed")) (fdAt K (Pl.adr K (Pl.fn "_law_mixed"))) ["_law_pen_here", "_law_some"] (spMixed) := by
  refine (d__law_mixed S).ok sc__law_mixed (fun vs H Q E h => ?_) (fun cdv A outer s H vs Q E hr h => ?_)
  · repeat (first | (obtain ⟨rfl, _⟩ := h; rfl) | (obtain ⟨_, h⟩ := h))
  · have nd := sc__law_mixed.nd
    refine ⟨_, PSs.nox ((pss_cons (ps_set (i := 2) nd rfl (Or.inr rfl) (pe_callTy call_list_of (by rfl) (n_list S) (by decide +kernel) (pa_cons (pv 1) pa_nil)))
    (pss_one (ps_ret (pe_lc (own := [("_law_k", 3)]) (g := gName 3) rfl nd (pi_range1 (by rfl) (n_range S) (pa_cons (pe_callB call_len_seq (by rfl) (n_len S) (by decide +kernel) (pa_cons (pv 2) pa_nil)) pa_nil)) (blkOk_by (own := [("_law_k", 3)]) (N := ["_law_pen_here", "_law_some", "_law_left", "_law_k"]) (sc := defScope s__law_mixed) (by decide +kernel)) (fun _ _ _ _ _ => (pg_name (i := 3) nd rfl (Or.inl rfl))) (fun _ _ _ _ _ => pts_nil) (fun _ _ _ _ _ => (pe_popk (K' := K) rfl (pv 2) (pa_cons (pe_f (cl__law_draw S) hr (by decide) pass0 (pa_cons (pv 0) (pa_cons (pe_callB (cak (r := CT.rLen) (K' := K) rfl call_len_seq) (by rfl) (n_len S) (by decide +kernel) (pa_cons (pv 2) pa_nil)) pa_nil))) pa_nil)))))))), ?_⟩
    try dsimp only [cxOf_K]
    obtain ⟨p, c, a, xs, n, rfl, hP, hn, ha, ap, hx, k⟩ := h
    refine go_start (σ' := [_, _, none, none]) rfl ?_
    walk_at "gm"
    rename_i l H1 nl s1 hl
    have lp : l ≠ p := by walk_at "ne"
    have lc : l ≠ c := by walk_at "nc"
    have P1 : Pn H1 p c n := by walk_at "pen"
    refine lcRangeG (fun D i acc H' => (D ≠ p ∧ D ≠ c ∧ D ≠ l) ∧ ∃ L, H' l = some (.lst L) ∧ (acc ++ L).Perm xs ∧ Pn H' p c (n + i) ∧ Kp p H H') (by omega) (fun _ => rfl) ?_ ?_ ?_
    · intro D H' nD s hD
      exact ⟨⟨by walk_at "ne", by walk_at "nc", fun z => by rw [z, hl] at nD; cases nD⟩, xs, by walk_at "hp", List.Perm.refl _, by walk_at "pen", by walk_at "kp"⟩
    · rintro D i acc H' Q' hi nD ea ⟨⟨Dp, Dc, Dl⟩, L, hL, pm, P, kp⟩ hD kk
      have ln := pm.length_eq
      rw [List.length_append] at ln
      have hxs : (xs.length : Int).toNat = xs.length := rfl
      have hL0 : 0 < L.length := by omega
      have hL1 : L.length ≤ 100 := by omega
      walk_at "gm"
      rename_i d H2 d0 d1 P2 k2
      obtain ⟨j, rfl⟩ := Int.eq_ofNat_of_zero_le d0
      have hj : j < L.length := by omega
      have hL2 : H2 l = some (.lst L) := by walk_at "hp"
      refine go_popat hL2 (List.getElem?_eq_getElem hj) (by omega) fun H3 k3 hl3 => ?_
      refine kk _ _ (by walk_at "hp") fun H4 k4 hD4 => ?_
      refine ⟨⟨Dp, Dc, Dl⟩, L.eraseIdx j, k4 _ _ hl3 (Ne.symm Dl), ?_, ?_, ?_⟩
      · rw [List.append_assoc]
        exact ((perm_erase (List.getElem?_eq_getElem hj)).append_left acc).trans pm
      · exact Pn.mono (pn_kp k4 (pn_kp k3 P2 lp lc) Dp Dc) (by omega)
      · have kp2 : Kp p H H2 := kp.trans k2
        have kp3 : Kp p H H3 := fun b o hb nb => k3 b o (kp2 b o hb nb) (fun z => by rw [z, nl] at hb; cases hb)
        have nDH : H D = none := no_sm s1 nD
        exact fun b o hb nb => k4 b o (kp3 b o hb nb) (fun z => by rw [z, nDH] at hb; cases hb)
    · rintro D acc H' nD ea ⟨_, L, hL, pm, P, kp⟩ hD
      have ln := pm.length_eq
      rw [List.length_append, ea] at ln
      have hL0 : L = [] := List.eq_nil_of_length_eq_zero (by have : (xs.length : Int).toNat = xs.length := rfl; omega)
      rw [hL0, List.append_nil] at pm
      exact k D acc H' (no_sm s1 nD) hD pm P kp
theorem cl__law_mixed {P : Program} {w : World} {base : Heap} (S : HD sys K mg) : Cl P w K mg base CX0 2 "_law_mixed" (spMixed) := ⟨_, _, _, (fk_cl__law_mixed S), g__law_mixed S, (d__law_mixed S).kp, b__law_mixed S⟩
def spNames : Sp := fun vs H Q _ => ∃ (p c : Addr) (n : Nat), vs = [.ref p] ∧ Pn H p c n ∧ n < 500000 ∧
  ∀ q ys H', H q = none → H' q = some (.lst ys) → ys.length = 6 → (∀ y ∈ ys, ∃ w, y = .str w ∧ isName w = true ∧ w ≠ "other") → Pn H' p c (n + 7) → Kp p H H' → Q (.ref q) H'
theorem fk_cl__law_names {P : Program} {w : World} {base : Heap} (S : HD sys K mg) : FnOk P w K mg base CX0 3 (Pl.adr K (Pl.fn "_law_names")) (fdAt K (Pl.adr K (Pl.fn "_law_names"))) ["_law_pen_here"] (spNames) := by
  refine (d__law_names S).ok sc__law_names (fun vs H Q E h => ?_) (fun cdv A outer s H vs Q E hr h => ?_)
  · repeat (first | (obtain ⟨rfl, _⟩ := h; rfl) | (obtain ⟨_, h⟩ := h))
  · have nd := sc__law_names.nd
    refine ⟨_, PSs.nox ((pss_cons (ps_set (i := 1) nd rfl (Or.inl rfl) (pe_f (cl__law_pick S) hr (by decide) pass0 (pa_cons (pv 0) (pa_cons (pe_lst (pa_cons (pe_lst (pa_cons pe_str (pa_cons pe_str (pa_cons pe_str (pa_cons pe_str (pa_cons pe_str (pa_cons pe_str pa_nil))))))) (pa_cons (pe_lst (pa_cons pe_str (pa_cons pe_str (pa_cons pe_str (pa_cons pe_str (pa_cons pe_str (pa_cons pe_str pa_nil))))))) pa_nil))) pa_nil))))
    (pss_one (ps_ret (pe_f (cl__law_mixed S) hr (by decide) pass0 (pa_cons (pv 0) (pa_cons (pv 1) pa_nil))))))), ?_⟩
    try dsimp only [cxOf_K]
    obtain ⟨p, c, n, rfl, hP, hn, k⟩ := h
    refine go_start (σ' := [_, none]) rfl ?_
    walk_at "gm"
    rename_i l1 H1 n1 s1 h1 l2 H2 n2 s2 h2 l3 H3 n3 s3 h3 v H4 hv P4 k4
    have l1p : l1 ≠ p := by walk_at "ne"
    have l2p : l2 ≠ p := by walk_at "ne"
    have h1' : H4 l1 = some (.lst [V.str "a", V.str "b", V.str "c", V.str "d", V.str "e", V.str "f"]) := by walk_at "hp"
    have h2' : H4 l2 = some (.lst [V.str "ab", V.str "b", V.str "ba", V.str "z", V.str "zzzzzzzz", V.str "gap"]) := by walk_at "hp"
    have key : ∀ (l : Addr) (ws : List Str), ws.length = 6 → (∀ w ∈ ws, isName w = true ∧ w ≠ "other") → l ≠ p → H4 l = some (.lst (ws.map V.str)) → spMixed [.ref p, .ref l] H4 Q E := by
      intro l ws e6 hw lp hl
      refine ⟨p, c, l, _, n + 1, rfl, P4, by omega, hl, lp, by rw [List.length_map]; omega, fun q ys H' nq hq pm P' k' => ?_⟩
      rw [List.length_map, e6] at P'
      refine k q ys H' (by walk_at "no") hq ?_ (fun y hy => ?_) (Pn.mono P' (by omega)) (by walk_at "kp")
      · rw [pm.length_eq, List.length_map, e6]
      · obtain ⟨w, hw', rfl⟩ := List.mem_map.mp (pm.mem_iff.mp hy)
        exact ⟨w, rfl, hw w hw'⟩
    simp only [List.mem_cons, List.not_mem_nil, or_false] at hv
    rcases hv with rfl | rfl
    · exact key l1 ["a", "b", "c", "d", "e", "f"] rfl (by decide +kernel) l1p h1'
    · exact key l2 ["ab", "b", "ba", "z", "zzzzzzzz", "gap"] rfl (by decide +kernel) l2p h2'
theorem cl__law_names {P : Program} {w : World} {base : Heap} (S : HD sys K mg) : Cl P w K mg base CX0 3 "_law_names" (spNames) := ⟨_, _, _, (fk_cl__law_names S), g__law_names S, (d__law_names S).kp, b__law_names S⟩
def spOdd : Sp := fun vs H Q _ => ∃ (p c : Addr) (n : Nat), vs = [.ref p] ∧ Pn H p c n ∧ n < 600000 ∧ ∀ v H', (∃ nm, OddV H' v nm) → v ≠ .ref p → Pn H' p c (n + 1) → Kp p H H' → Q v H'
theorem fk_cl__law_odd {P : Program} {w : World} {base : Heap} (S : HD sys K mg) : FnOk P w K mg base CX0 3 (Pl.adr K (Pl.fn "_law_odd")) (fdAt K (Pl.adr K (Pl.fn "_law_odd"))) ["_law_pen_here"] (spOdd) := by
  refine (d__law_odd S).ok sc__law_odd (fun vs H Q E h => ?_) (fun cdv A outer s H vs Q E hr h => ?_)
  · repeat (first | (obtain ⟨rfl, _⟩ := h; rfl) | (obtain ⟨_, h⟩ := h))
  · have nd := sc__law_odd.nd
    refine ⟨_, PSs.nox ((pss_one (ps_ret (pe_f (cl__law_pick S) hr (by decide) pass0 (pa_cons (pv 0) (pa_cons (pe_lst (pa_cons pe_non (pa_cons pe_int (pa_cons pe_int (pa_cons pe_bl (pa_cons pe_str (pa_cons pe_str (pa_cons (pe_tup pa_nil) (pa_cons (pe_tup (pa_cons pe_str pa_nil)) (pa_cons (pe_lst pa_nil) (pa_cons (pe_lst (pa_cons pe_str pa_nil)) (pa_cons pe_dnewK (pa_cons (pe_disp (pps_cons pe_str pe_int pps_nil) (by rfl) (by rfl) (fun z => by cases z) (by decide)) (pa_cons (pe_op op_pow pe_int pe_int) pa_nil)))))))))))))) pa_nil)))))), ?_⟩
    try dsimp only [cxOf_K]
    obtain ⟨p, c, n, rfl, hP, hn, k⟩ := h
    refine go_start (σ' := [_]) rfl ?_
    walk_at "gm"
    rename_i t0 H1 n1 s1 h1 t1 H2 n2 s2 h2 l0 H3 n3 s3 h3 l1 H4 n4 s4 h4 d0 H5 n5 s5 h5 d1 H6 n6 s6 h6 q H7 n7 s7 h7 v H8 hv P8 k8
    have e0 : t0 ≠ p := by walk_at "ne"
    have e1 : t1 ≠ p := by walk_at "ne"
    have e2 : l0 ≠ p := by walk_at "ne"
    have e3 : l1 ≠ p := by walk_at "ne"
    have e4 : d0 ≠ p := by walk_at "ne"
    have e5 : d1 ≠ p := by walk_at "ne"
    refine k v H8 ?_ ?_ P8 (by walk_at "kp")
    rotate_left
    · simp only [List.mem_cons, List.not_mem_nil, or_false] at hv
      rcases hv with rfl | rfl | rfl | rfl | rfl | rfl | rfl | rfl | rfl | rfl | rfl | rfl | rfl <;> (intro q; cases q) <;> (first | exact e0 rfl | exact e1 rfl | exact e2 rfl | exact e3 rfl | exact e4 rfl | exact e5 rfl)
    simp only [List.mem_cons, List.not_mem_nil, or_false] at hv
    rcases hv with rfl | rfl | rfl | rfl | rfl | rfl | rfl | rfl | rfl | rfl | rfl | rfl | rfl
    · exact ⟨_, .non⟩
    · exact ⟨_, .int _⟩
    · exact ⟨_, .int _⟩
    · exact ⟨_, .bl _⟩
    · exact ⟨_, .str _⟩
    · exact ⟨_, .str _⟩
    · exact ⟨_, .tup (xs := []) (by walk_at "hp")⟩
    · exact ⟨_, .tup (xs := [.str "a"]) (by walk_at "hp")⟩
    · exact ⟨_, .lst (xs := []) (by walk_at "hp")⟩
    · exact ⟨_, .lst (xs := [.str "a"]) (by walk_at "hp")⟩
    · exact ⟨_, .dK (kvs := []) (by walk_at "hp")⟩
    · exact ⟨_, .dK (kvs := [(.inr "a", .int 1)]) (by walk_at "hp")⟩
    · exact ⟨_, .int _⟩
theorem cl__law_odd {P : Program} {w : World} {base : Heap} (S : HD sys K mg) : Cl P w K mg base CX0 3 "_law_odd" (spOdd) := ⟨_, _, _, (fk_cl__law_odd S), g__law_odd S, (d__law_odd S).kp, b__law_odd S⟩
/-! ### texts and their words -/
/-- its signs are signs -/
def AOk (w : Str) : Prop := ∀ c ∈ TL.tl w, c < 1114112
theorem ok_str {w : Str} (h : AOk w) : PyData.strOk w = true := by
  unfold PyData.strOk
  rw [← Array.all_toList, List.all_eq_true]
  exact fun c hc => decide_eq_true (h c hc)
theorem AOk.app {u w : Str} (h : AOk u) (h2 : AOk w) : AOk (u ++ w) := fun c hc => by
  rw [TL.tl_append] at hc
  rcases List.mem_append.mp hc with hc | hc
  · exact h c hc
  · exact h2 c hc
theorem sp32 : TL.tl " " = [32] := by decide +kernel
theorem split_eq {z : Str} {ws : List Str} (ne : ws ≠ []) (hj : TL.tl z = TL.joinL [32] (ws.map TL.tl)) (h : ∀ w ∈ ws, 32 ∉ TL.tl w) : Txt.split z " " = ws := by
  have e : Txt.join " " ws = z := by
    unfold Txt.join
    rw [StrLaws.glued_eq_join]
    refine TL.ext_tl ?_
    rw [TL.tl_join, sp32, hj]
  rw [← e]
  exact TL.split_join (s := 32) (S := []) (by decide +kernel) (by decide +kernel) ne h
theorem split_join' {ws : List Str} (ne : ws ≠ []) (h : ∀ w ∈ ws, 32 ∉ TL.tl w) : Txt.split (Txt.join " " ws) " " = ws :=
  TL.split_join (s := 32) (S := []) (by decide +kernel) (by decide +kernel) ne h
theorem num_head : ∀ n : Nat, 1 ≤ n → (TL.numL n).head? ≠ some 48 := fun n => by
  induction n using Nat.strongRecOn with
  | _ n ih =>
    intro h
    by_cases h10 : n < 10
    · rw [TL.numL_lt h10]
      intro q
      have := Option.some.inj q
      omega
    · rw [TL.numL_step (by omega)]
      have := ih (n / 10) (by omega) (by omega)
      obtain ⟨c, r, e⟩ := List.exists_cons_of_ne_nil (TL.numL_ne (n / 10))
      rw [e] at this ⊢
      exact this
theorem num_ok {i : Int} (h0 : 0 ≤ i) : okW (TL.tl (toString i : Str)) ∧ valW (toString i) = i ∧ (∀ c ∈ TL.tl (toString i : Str), 48 ≤ c ∧ c ≤ 57) := by
  obtain ⟨n, rfl⟩ := Int.eq_ofNat_of_zero_le h0
  have e : TL.tl (Str.ofString (toString ((n : Nat) : Int))) = TL.numL n := TL.tl_num n
  have hd := TL.numL_digits n
  have hv := TL.numL_val n
  refine ⟨⟨by rw [e]; exact TL.numL_ne n, by rw [e]; exact hd, ?_⟩, ?_, by rw [e]; exact hd⟩
  · rw [e]
    rcases Nat.eq_zero_or_pos n with z | z
    · subst z
      exact .inl (TL.numL_lt (by decide))
    · exact .inr (num_head n z)
  · unfold valW
    rw [e, hv]
theorem num_nosp {i : Int} (h0 : 0 ≤ i) : 32 ∉ TL.tl (toString i : Str) := fun hm => by
  have := (num_ok h0).2.2 32 hm
  omega
theorem num_aok {i : Int} (h0 : 0 ≤ i) : AOk (toString i : Str) := fun c hm => by
  have := (num_ok h0).2.2 c hm
  omega
theorem str_back {w : Str} (h : okW (TL.tl w)) : (Str.ofString (toString (valW w)) : Str) = w := text_back h.2.1 h.1 h.2.2
theorem er2_sm {x f g : Str} {v w : V} {H H1 : Hp} {E : XK} (s : Same H H1) (h : Er2 K x f g v w H E) : Er2 K x f g v w H1 E := fun d H' n s' hd => h d H' (no_sm s n) (s.trans s') hd
theorem er1_sm {x f : Str} {v : V} {H H1 : Hp} {E : XK} (s : Same H H1) (h : Er1 K x f v H E) : Er1 K x f v H1 E := fun d H' n s' hd => h d H' (no_sm s n) (s.trans s') hd
/-! ### pairs -/
theorem go_nePair {H : Hp} {Q : VK} {a b : Addr} {i j : Int} (ha : SqT K H a [.int i, .int j]) (hb : SqT K H b [.int i, .int j]) (k : Q (.bl false) H) : rNeD K (.ref a) (.ref b) H Q := by
  refine ⟨.tuple [.int i, .int j], .tuple [.int i, .int j], .tup ha (.cons (.int _) (.cons (.int _) .nil)), .tup hb (.cons (.int _) (.cons (.int _) .nil)), rfl, rfl, ?_⟩
  refine bl_of (R := fun v => Q v H) (y := false) (by simp [PyData.eqv, PyData.eqvAll]) k
theorem go_eqPair {H : Hp} {Q : VK} {a b : Addr} {i j : Int} (ha : SqT K H a [.int i, .int j]) (hb : SqT K H b [.int i, .int j]) (k : Q (.bl true) H) : rEqD K (.ref a) (.ref b) H Q := by
  refine ⟨.tuple [.int i, .int j], .tuple [.int i, .int j], .tup ha (.cons (.int _) (.cons (.int _) .nil)), .tup hb (.cons (.int _) (.cons (.int _) .nil)), rfl, rfl, ?_⟩
  refine bl_of (R := fun v => Q v H) (y := true) (by simp [PyData.eqv, PyData.eqvAll]) k
/-! ### texts of promises, and others -/
theorem name_sp {w : Str} (h : isName w = true) : 32 ∉ TL.tl w ∧ AOk w := by
  unfold isName at h
  simp only [Bool.and_eq_true] at h
  obtain ⟨_, ha, hb, _⟩ := h
  unfold Txt.isalpha at hb
  have h2 := (Bool.and_eq_true_iff.mp hb).2
  rw [← Array.all_toList, List.all_eq_true] at h2
  unfold Txt.isascii at ha
  rw [← Array.all_toList, List.all_eq_true] at ha
  refine ⟨fun hm => ?_, fun c hc => ?_⟩
  · have := h2 32 hm
    exact absurd this (by decide +kernel)
  · have := of_decide_eq_true (ha c hc)
    omega
theorem tells_num {i lo : Int} (h0 : 0 ≤ i) (h1 : lo ≤ i) (h2 : i ≤ 1000000000000000000000000000000000000000000000000000000000000) : Tells (toString i) lo 1000000000000000000000000000000000000000000000000000000000000 := by
  have n := num_ok h0
  have l := len_num h0 (show i < 10000000000000000000000000000000000000000000000000000000000000 by omega)
  have l60 : (Str.ofString (toString (1000000000000000000000000000000000000000000000000000000000000 : Int))).length = 61 := by decide +kernel
  exact ⟨n.1, by rw [l60]; exact l, by rw [n.2.1]; exact h1, by rw [n.2.1]; exact h2⟩
theorem no_tells {w : Str} {lo hi : Int} (h : (TL.tl w).isEmpty = true ∨ (TL.tl w).all (fun c => decide (48 ≤ c ∧ c ≤ 57)) = false ∨ ((TL.tl w) ≠ [48] ∧ (TL.tl w).head? = some 48) ∨ hi < valW w) : ¬ Tells w lo hi := fun t => by
  rcases h with h | h | ⟨h, h'⟩ | h
  · exact t.1.1 (List.isEmpty_iff.mp h)
  · rw [List.all_eq_true.mpr (fun c hc => decide_eq_true (t.1.2.1 c hc))] at h
    cases h
  · rcases t.1.2.2 with q | q
    · exact h q
    · exact q h'
  · have := t.2.2.2
    omega
theorem PrV.strOk {z : Str} {b t : Int} (V : PrV z b t) : TL.tl (strP z b t) = TL.joinL [32] ([z, (toString b : Str), (toString t : Str)].map TL.tl) ∧ AOk (strP z b t) ∧ (strP z b t).length ≤ 132 := by
  have b0 := V.b0
  have b1 := V.b1
  have t0 := V.t0
  have t1 := V.t1
  have l0 := name_len V.name
  have l1 := len_num (i := b) (by omega) (by omega)
  have l2 := len_num (i := t) (by omega) (by omega)
  have em : TL.tl Str.empty = [] := by decide +kernel
  have aem : AOk Str.empty := fun c hc => by rw [em] at hc; cases hc
  have asp : AOk " " := fun c hc => by rw [sp32, List.mem_singleton] at hc; omega
  have lem : Str.empty.length = 0 := by decide +kernel
  have lsp : (" " : Str).length = 1 := by decide +kernel
  unfold strP
  refine ⟨?_, ((((aem.app (name_sp V.name).2).app asp).app (num_aok (by omega))).app asp).app (num_aok t0), ?_⟩
  · simp only [TL.tl_append, sp32, em, List.nil_append, List.map_cons, List.map_nil, TL.joinL, List.append_assoc]
  · simp only [PySem.Str.length_append]
    omega
theorem PrV.split {z : Str} {b t : Int} (V : PrV z b t) : Txt.split (strP z b t) " " = [z, (toString b : Str), (toString t : Str)] := by
  have b0 := V.b0
  refine split_eq (by simp) V.strOk.1 fun w hw => ?_
  simp only [List.mem_cons, List.not_mem_nil, or_false] at hw
  rcases hw with rfl | rfl | rfl
  · exact (name_sp V.name).1
  · exact num_nosp (by omega)
  · exact num_nosp V.t0
/-- refused at the word n -/
def RefAt (ws : List Str) (n : Nat) : Prop := ∀ (k : Str → Int → Int → Prop) (er : Nat → Prop), er n → ReadsP ws k er
theorem ref0 {ws : List Str} (h : ∀ w, ws[0]? = some w → isName w = false) : RefAt ws 0 := fun k er e =>
  ⟨fun w hw nw => (by rw [h w hw] at nw; cases nw), fun _ => e⟩
theorem ref1 {w : Str} {ws : List Str} (hw : isName w = true) (h : ∀ w1, ws[0]? = some w1 → ¬ Tells w1 1 1000000000000000000000000000000000000000000000000000000000000) : RefAt (w :: ws) 1 := fun k er e =>
  ⟨fun _ _ _ => ⟨fun w1 h1 t1 => absurd t1 (h w1 h1), fun _ => e⟩, fun h0 => by rw [h0 w rfl] at hw; cases hw⟩
theorem ref2 {w w1 : Str} {ws : List Str} (hw : isName w = true) (h1 : Tells w1 1 1000000000000000000000000000000000000000000000000000000000000) (h : ∀ w2, ws[0]? = some w2 → ¬ Tells w2 0 1000000000000000000000000000000000000000000000000000000000000) : RefAt (w :: w1 :: ws) 2 := fun k er e =>
  ⟨fun _ _ _ => ⟨fun _ _ _ => ⟨fun w2 h2 t2 => absurd t2 (h w2 h2), fun _ => e⟩, fun q => absurd h1 (q w1 rfl)⟩, fun h0 => by rw [h0 w rfl] at hw; cases hw⟩
theorem ref3 {w w1 w2 w3 : Str} {ws : List Str} (hw : isName w = true) (h1 : Tells w1 1 1000000000000000000000000000000000000000000000000000000000000) (h2 : Tells w2 0 1000000000000000000000000000000000000000000000000000000000000) : RefAt (w :: w1 :: w2 :: w3 :: ws) 3 := fun k er e =>
  ⟨fun _ _ _ => ⟨fun _ _ _ => ⟨fun _ _ _ => ⟨fun q => absurd q (by simp), fun _ => e⟩, fun q => absurd h2 (q w2 rfl)⟩, fun q => absurd h1 (q w1 rfl)⟩, fun h0 => by rw [h0 w rfl] at hw; cases hw⟩
/-- a text refused at its word n -/
structure RefT (x : Str) (n : Nat) : Prop where
  len : x.length ≤ 1000
  ref : ∃ ws, Txt.split x " " = ws ∧ ws.length ≤ 4 ∧ (∀ w ∈ ws, w.length ≤ 61) ∧ RefAt ws n
theorem ref_go {x : Str} {n : Nat} {H : Hp} {Q : VK} {E : XK} (r : RefT x n) (er : ErW0 K n H E) : spPrRead K [.ref (ga K "Promise"), .str x] H Q E := by
  obtain ⟨l, ws, e, h1, h2, h3⟩ := r
  refine ⟨_, rfl, .inl ⟨x, rfl, by omega, by rw [e]; omega, fun w hw => ?_, ?_⟩⟩
  · rw [e] at hw
    have := h2 w hw
    omega
  · rw [e]
    exact h3 _ _ fun H' s => er2_sm s er
theorem RefT.of {x : Str} {ws : List Str} {n : Nat} (ne : ws ≠ []) (hj : TL.tl x = TL.joinL [32] (ws.map TL.tl)) (hs : ∀ w ∈ ws, 32 ∉ TL.tl w ∧ w.length ≤ 61) (h4 : ws.length ≤ 4) (lx : x.length ≤ 1000) (r : RefAt ws n) : RefT x n :=
  ⟨lx, ws, split_eq ne hj fun w hw => (hs w hw).1, h4, fun w hw => (hs w hw).2, r⟩
/-- the eight other texts -/
def others (z : Str) (b t : Int) : List (Str × Nat) := [(z, 1), ((z ++ " ") ++ (toString b : Str), 2), (strP z b t ++ " 1", 3), (strP z b t ++ " ", 3), ("", 0), ((z ++ " 0 ") ++ (toString t : Str), 1), (" " ++ strP z b t, 0), ((z ++ "  ") ++ (toString t : Str), 1)]
theorem PrV.others {z : Str} {b t : Int} (V : PrV z b t) : ∀ xn ∈ others z b t, RefT xn.1 xn.2 := by
  have b0 := V.b0
  have b1 := V.b1
  have t0 := V.t0
  have t1 := V.t1
  have l0 := name_len V.name
  have l1 := len_num (i := b) (by omega) (by omega)
  have l2 := len_num (i := t) (by omega) (by omega)
  have lp := V.strOk.2.2
  have ep := V.strOk.1
  have sz := (name_sp V.name).1
  have sb := num_nosp (i := b) (by omega)
  have st := num_nosp t0
  have em : TL.tl "" = [] := by decide +kernel
  have t1' : TL.tl " 1" = [32, 49] := by decide +kernel
  have t0' : TL.tl " 0 " = [32, 48, 32] := by decide +kernel
  have t0z : TL.tl "0" = [48] := by decide +kernel
  have t1z : TL.tl "1" = [49] := by decide +kernel
  have t2' : TL.tl "  " = [32, 32] := by decide +kernel
  have k1 : (" 1" : Str).length = 2 := by decide +kernel
  have k2 : (" " : Str).length = 1 := by decide +kernel
  have k3 : (" 0 " : Str).length = 3 := by decide +kernel
  have k4 : ("  " : Str).length = 2 := by decide +kernel
  have k5 : ("" : Str).length = 0 := by decide +kernel
  have k6 : ("0" : Str).length = 1 := by decide +kernel
  have k7 : ("1" : Str).length = 1 := by decide +kernel
  have se : 32 ∉ TL.tl "" := by rw [em]; simp
  have s0 : 32 ∉ TL.tl "0" := by rw [t0z]; simp
  have s1 : 32 ∉ TL.tl "1" := by rw [t1z]; simp
  have Tb := tells_num (lo := 1) (by omega) b0 b1
  have Tt := tells_num (lo := 0) t0 t0 t1
  have ne : ¬ Tells "" 1 1000000000000000000000000000000000000000000000000000000000000 := no_tells (.inl (by rw [em]; rfl))
  have n0 : ¬ Tells "0" 1 1000000000000000000000000000000000000000000000000000000000000 := fun q => by
    have := q.2.2.1
    exact absurd this (by decide +kernel)
  have ie : isName "" = false := by decide +kernel
  intro xn hx
  simp only [K74.others, List.mem_cons, List.not_mem_nil, or_false] at hx
  rcases hx with rfl | rfl | rfl | rfl | rfl | rfl | rfl | rfl
  · refine .of (ws := [z]) (by simp) rfl (fun w hw => ?_) (by simp) (by show z.length ≤ _; omega) (ref1 V.name fun w h => by cases h)
    simp only [List.mem_cons, List.not_mem_nil, or_false] at hw
    rcases hw with rfl
    exact ⟨sz, by omega⟩
  · refine .of (ws := [z, (toString b : Str)]) (by simp) (by simp only [TL.tl_append, sp32, List.map_cons, List.map_nil, TL.joinL, List.append_assoc]) (fun w hw => ?_) (by simp) (by simp only [PySem.Str.length_append]; omega) (ref2 V.name Tb fun w h => by cases h)
    simp only [List.mem_cons, List.not_mem_nil, or_false] at hw
    rcases hw with rfl | rfl
    · exact ⟨sz, by omega⟩
    · exact ⟨sb, l1⟩
  · refine .of (ws := [z, (toString b : Str), (toString t : Str), "1"]) (by simp) (by simp only [TL.tl_append, ep, t1', t1z, List.map_cons, List.map_nil, TL.joinL, List.append_assoc, List.cons_append, List.nil_append]) (fun w hw => ?_) (by simp) (by simp only [PySem.Str.length_append]; omega) (ref3 V.name Tb Tt)
    simp only [List.mem_cons, List.not_mem_nil, or_false] at hw
    rcases hw with rfl | rfl | rfl | rfl
    · exact ⟨sz, by omega⟩
    · exact ⟨sb, l1⟩
    · exact ⟨st, l2⟩
    · exact ⟨s1, by omega⟩
  · refine .of (ws := [z, (toString b : Str), (toString t : Str), ""]) (by simp) (by simp only [TL.tl_append, ep, sp32, em, List.map_cons, List.map_nil, TL.joinL, List.append_assoc, List.append_nil]) (fun w hw => ?_) (by simp) (by simp only [PySem.Str.length_append]; omega) (ref3 V.name Tb Tt)
    simp only [List.mem_cons, List.not_mem_nil, or_false] at hw
    rcases hw with rfl | rfl | rfl | rfl
    · exact ⟨sz, by omega⟩
    · exact ⟨sb, l1⟩
    · exact ⟨st, l2⟩
    · exact ⟨se, by omega⟩
  · refine .of (ws := [""]) (by simp) rfl (fun w hw => ?_) (by simp) (by show ("" : Str).length ≤ _; omega) (ref0 fun w h => by cases h; exact ie)
    simp only [List.mem_cons, List.not_mem_nil, or_false] at hw
    rcases hw with rfl
    exact ⟨se, by omega⟩
  · refine .of (ws := [z, "0", (toString t : Str)]) (by simp) (by simp only [TL.tl_append, t0', t0z, List.map_cons, List.map_nil, TL.joinL, List.append_assoc, List.cons_append, List.nil_append]) (fun w hw => ?_) (by simp) (by simp only [PySem.Str.length_append]; omega) (ref1 V.name fun w h => by cases h; exact n0)
    simp only [List.mem_cons, List.not_mem_nil, or_false] at hw
    rcases hw with rfl | rfl | rfl
    · exact ⟨sz, by omega⟩
    · exact ⟨s0, by omega⟩
    · exact ⟨st, l2⟩
  · refine .of (ws := ["", z, (toString b : Str), (toString t : Str)]) (by simp) (by simp only [TL.tl_append, ep, sp32, em, List.map_cons, List.map_nil, TL.joinL, List.append_assoc, List.nil_append]) (fun w hw => ?_) (by simp) (by simp only [PySem.Str.length_append]; omega) (ref0 fun w h => by cases h; exact ie)
    simp only [List.mem_cons, List.not_mem_nil, or_false] at hw
    rcases hw with rfl | rfl | rfl | rfl
    · exact ⟨se, by omega⟩
    · exact ⟨sz, by omega⟩
    · exact ⟨sb, l1⟩
    · exact ⟨st, l2⟩
  · refine .of (ws := [z, "", (toString t : Str)]) (by simp) (by simp only [TL.tl_append, t2', em, List.map_cons, List.map_nil, TL.joinL, List.append_assoc, List.cons_append, List.nil_append]) (fun w hw => ?_) (by simp) (by simp only [PySem.Str.length_append]; omega) (ref1 V.name fun w h => by cases h; exact ne)
    simp only [List.mem_cons, List.not_mem_nil, or_false] at hw
    rcases hw with rfl | rfl | rfl
    · exact ⟨sz, by omega⟩
    · exact ⟨se, by omega⟩
    · exact ⟨st, l2⟩
/-! ### one word wrong -/
/-- a word that can't stand at its place -/
def BadAt (way : Nat) (w : Str) : Prop := 32 ∉ TL.tl w ∧ w.length ≤ 61 ∧ (way = 0 → isName w = false) ∧ (way ≠ 0 → ∀ lo, ¬ Tells w lo 1000000000000000000000000000000000000000000000000000000000000)
theorem bad_name : ∀ w ∈ (["", "A", "abcdefghi", "1", "a_b"] : List Str), BadAt 0 w := by
  have all : ∀ w ∈ (["", "A", "abcdefghi", "1", "a_b"] : List Str), (TL.tl w).contains 32 = false ∧ w.length ≤ 61 ∧ isName w = false := by decide +kernel
  intro w hw
  obtain ⟨a, b, c⟩ := all w hw
  exact ⟨fun h => (by rw [List.contains_iff_mem.mpr h] at a; cases a), b, fun _ => c, fun h => absurd rfl h⟩
theorem bad_num {way : Nat} (h : way ≠ 0) : ∀ w ∈ (["", "-1", "1.0", "01", "a1", "A", (toString (1000000000000000000000000000000000000000000000000000000000000 + 1 : Int) : Str), "+1"] : List Str), BadAt way w := by
  have all : ∀ w ∈ (["", "-1", "1.0", "01", "a1", "A", (toString (1000000000000000000000000000000000000000000000000000000000000 + 1 : Int) : Str), "+1"] : List Str), (TL.tl w).contains 32 = false ∧ w.length ≤ 61 ∧
    ((TL.tl w).isEmpty = true ∨ (TL.tl w).all (fun c => decide (48 ≤ c ∧ c ≤ 57)) = false ∨ ((TL.tl w) ≠ [48] ∧ (TL.tl w).head? = some 48) ∨ 1000000000000000000000000000000000000000000000000000000000000 < valW w) := by decide +kernel
  intro w hw
  obtain ⟨a, b, c⟩ := all w hw
  exact ⟨fun h => (by rw [List.contains_iff_mem.mpr h] at a; cases a), b, fun z => absurd z h, fun _ _ => no_tells c⟩
theorem PrV.wrong {z w : Str} {b t : Int} {way : Nat} (V : PrV z b t) (hw : way < 3) (B : BadAt way w) : RefT (Txt.join " " ([z, (toString b : Str), (toString t : Str)].set way w)) way := by
  have b0 := V.b0
  have b1 := V.b1
  have t0 := V.t0
  have t1 := V.t1
  have l0 := name_len V.name
  have l1 := len_num (i := b) (by omega) (by omega)
  have l2 := len_num (i := t) (by omega) (by omega)
  have sz := (name_sp V.name).1
  have sb := num_nosp (i := b) (by omega)
  have st := num_nosp t0
  have Tb := tells_num (lo := 1) (by omega) b0 b1
  have k2 : (" " : Str).length = 1 := by decide +kernel
  obtain ⟨B1, B2, B3, B4⟩ := B
  have key : ∀ ws : List Str, ws.length = 3 → (∀ u ∈ ws, 32 ∉ TL.tl u ∧ u.length ≤ 61) → RefAt ws way → RefT (Txt.join " " ws) way := fun ws e3 hs r => by
    refine ⟨?_, ws, split_join' (fun q => by rw [q] at e3; cases e3) (fun u hu => (hs u hu).1), by omega, fun u hu => (hs u hu).2, r⟩
    unfold Txt.join
    rw [StrLaws.glued_eq_join]
    refine Nat.le_trans (StrLaws.join_length_le " " ws) ?_
    match ws, e3, hs with
    | [u1, u2, u3], _, hs =>
      have h1 := (hs u1 (by simp)).2
      have h2 := (hs u2 (by simp)).2
      have h3 := (hs u3 (by simp)).2
      simp only [List.map_cons, List.map_nil, List.sum_cons, List.sum_nil, List.length_cons, List.length_nil, k2]
      omega
  rcases (show way = 0 ∨ way = 1 ∨ way = 2 by omega) with rfl | rfl | rfl
  · refine key _ rfl (fun u hu => ?_) (ref0 fun u h => by cases h; exact B3 rfl)
    simp only [List.set, List.mem_cons, List.not_mem_nil, or_false] at hu
    rcases hu with rfl | rfl | rfl
    · exact ⟨B1, B2⟩
    · exact ⟨sb, l1⟩
    · exact ⟨st, l2⟩
  · refine key _ rfl (fun u hu => ?_) (ref1 V.name fun u h => by cases h; exact B4 (by decide) 1)
    simp only [List.set, List.mem_cons, List.not_mem_nil, or_false] at hu
    rcases hu with rfl | rfl | rfl
    · exact ⟨sz, by omega⟩
    · exact ⟨B1, B2⟩
    · exact ⟨st, l2⟩
  · refine key _ rfl (fun u hu => ?_) (ref2 V.name Tb fun u h => by cases h; exact B4 (by decide) 0)
    simp only [List.set, List.mem_cons, List.not_mem_nil, or_false] at hu
    rcases hu with rfl | rfl | rfl
    · exact ⟨sz, by omega⟩
    · exact ⟨sb, l1⟩
    · exact ⟨B1, B2⟩
theorem go_ne4 {H : Hp} {Q : VK} {a c : Addr} {z s : Str} {b t : Int} (ha : SqL K H a [.str z, .int b, .int t, .str s]) (hc : SqL K H c [.str z, .int b, .int t, .str s]) (oz : AOk z) (os : AOk s) (k : Q (.bl false) H) : rNeD K (.ref a) (.ref c) H Q := by
  have sh : SeqAt.shaped (.list [.str z, .int b, .int t, .str s]) = true := by
    unfold SeqAt.shaped
    simp [PyData.canLay0, PyData.canLayAll0, ok_str oz, ok_str os, PyData.depth, PyData.depthAll]
  refine ⟨.list [.str z, .int b, .int t, .str s], .list [.str z, .int b, .int t, .str s], .lst ha (.cons (.str _) (.cons (.int _) (.cons (.int _) (.cons (.str _) .nil)))), .lst hc (.cons (.str _) (.cons (.int _) (.cons (.int _) (.cons (.str _) .nil)))), sh, sh, ?_⟩
  refine bl_of (R := fun v => Q v H) (y := false) (by simp [PyData.eqv, PyData.eqvAll]) k
theorem tabs_two {H : Hp} (h1 : H (tabAt K (ga K "_law_words_right")).2 = some (.tbl #[])) (h2 : H (tabAt K (ga K "law")).2 = some (.tbl #[])) : LamX.Tabs (T_all K) H := fun p hp => by
  simp only [List.mem_cons, List.not_mem_nil, or_false] at hp
  rcases hp with rfl | rfl
  · exact LamX.TabS.nil h1
  · exact LamX.TabS.nil h2
--@@go
local macro_rules | `(tactic| walk_at "ws1") => `(tactic| first
  | ((with_reducible refine go_adds ?_ ?_); (focus (first | omega | (simp only [PySem.Str.length_append]; omega))))
  | walk_at "gm1")
local macro_rules | `(tactic| walk_at "ws") => `(tactic| repeat (walk_at "ws1"))
--@@endgo
theorem PrV.sum {z w : Str} {b t : Int} {way : Nat} (V : PrV z b t) (hw : way < 3) (B : BadAt way w) : (([z, (toString b : Str), (toString t : Str)].set way w).map (·.length)).sum + ([z, (toString b : Str), (toString t : Str)].set way w).length * (" " : Str).length ≤ 1000 := by
  have b0 := V.b0
  have b1 := V.b1
  have t0 := V.t0
  have t1 := V.t1
  have l0 := name_len V.name
  have l1 := len_num (i := b) (by omega) (by omega)
  have l2 := len_num (i := t) (by omega) (by omega)
  have k2 : (" " : Str).length = 1 := by decide +kernel
  have k3 := B.2.1
  rcases (show way = 0 ∨ way = 1 ∨ way = 2 by omega) with rfl | rfl | rfl <;> (simp only [List.set, List.map_cons, List.map_nil, List.sum_cons, List.sum_nil, List.length_cons, List.length_nil, k2]; omega)
def spWR (K : PySem.W.Frag) : Sp := fun vs H Q _ => ∃ (p c a : Addr) (z : Str) (b t : Int) (n : Nat), vs = [.ref p, .ref a] ∧ Pn H p c n ∧ n < 600000 ∧ PrAt (ga K "Promise") H a z b t ∧ PrV z b t ∧ LamX.Tabs (T_all K) H ∧
  ∀ H', Pn H' p c (n + 4) → LamX.Tabs (T_all K) H' → Q (.bl true) H'
theorem fk_clg__law_words_right {P : Program} {w : World} {base : Heap} (S : HD sys K mg) (TB : LamX.TabB base mg (tabAt K (ga K "_law_words_right")).1 (tabAt K (ga K "_law_words_right")).2) : FnOkG P w K mg base CX0 8 (Pl.adr K (Pl.fn "_law_words_right")) (fdAt K (Pl.adr K (Pl.fn "_law_words_right"))) ["_law_pen_here", "_law_one"] (spWR K) := by
  have hcode := code_of (d__law_words_right S)
  refine (d__law_words_right S).okGD sc__law_words_right (fun vs H Q E h => ?_) (fun A outer s H vs Q E hgd hr h => ?_)
  · repeat (first | (obtain ⟨rfl, _⟩ := h; rfl) | (obtain ⟨_, h⟩ := h))
  · have nd := sc__law_words_right.nd
    refine ⟨_, PSs.nox ((pss_cons (ps_asg (pe_splitS (pe_callTy (call_strO (op_Promise___str__ S) hr (by decide) pass0) (by rfl) (n_str S) (by decide +kernel) (pa_cons (pv 1) pa_nil)) pe_str) (pg_lst (by rfl) (pgs_cons (pg_name (i := 2) nd rfl (Or.inl rfl)) (pgs_cons (pg_name (i := 3) nd rfl (Or.inl rfl)) (pgs_cons (pg_name (i := 4) nd rfl (Or.inl rfl)) pgs_nil)))))
    (pss_cons (ps_par (i := 5) (j := 6) (by rfl) nd rfl rfl (by decide) rfl rfl (pa_cons (pe_f (cl__law_draw S) hr (by decide) pass0 (pa_cons (pv 0) (pa_cons pe_int pa_nil))) (pa_cons (pe_f (cl__law_pick S) hr (by decide) pass0 (pa_cons (pv 0) (pa_cons (pe_lst (pa_cons pe_str (pa_cons pe_str (pa_cons pe_str (pa_cons pe_str (pa_cons pe_str (pa_cons pe_str (pa_cons (pe_callTy call_str_int (by rfl) (n_str S) (by decide +kernel) (pa_cons (pe_op op_add (pe_op op_pow pe_int pe_int) pe_int) pa_nil)) (pa_cons pe_str pa_nil))))))))) pa_nil))) pa_nil)) (by rfl))
    (pss_cons (ps_set (i := 11) nd rfl (Or.inr rfl) (pe_lst (pa_cons (pv 2) (pa_cons (pv 3) (pa_cons (pv 4) pa_nil)))))
    (pss_cons (ps_mark (ps_asg (pe_ifExp (pt_cmpR op_eq (pv 5) pe_int (nomark _)) (pe_f (cl__law_pick S) hr (by decide) pass0 (pa_cons (pv 0) (pa_cons (pe_lst (pa_cons pe_str (pa_cons pe_str (pa_cons pe_str (pa_cons pe_str (pa_cons pe_str pa_nil)))))) pa_nil))) (pv 6)) (pg_sub (pv 11) (pv 5) set_list)))
    (pss_cons (ps_if (pt_cmpR (op_neD hr.units) (pe_lam (T := T_all K) (k := 5) (g__law_refused S) (d__law_refused S) (b__law_refused S) sc__law_refused rfl (.inl rfl) (fun _ => refused_gives S) TB hcode (.head _) (fun p hp e => tall_u S p hp _ (.head _) e) (hr.mono (by decide)) (LamX.lamS_by (sc := defScope s__law_words_right) (by decide +kernel)) rfl (fun _ _ _ _ _ => rfl) (fun A outer s H E f c' hr' => (pe_cm (cm_Promise_read S) hr' (by decide) (passes_call (takes_of rfl rfl rfl rfl) (fun _ _ _ _ h => h)) (pe_glob (v := .ref (ga K "Promise")) rfl (g_Promise S) rfl) (pa_cons (pe_joinSk (K' := K) rfl pe_str (pv 11)) pa_nil)))) (pe_tup (pa_cons pe_int (pa_cons (pv 5) pa_nil))) (nomark _)) (pss_one (ps_ret pe_bl)) pss_nil)
    (pss_cons (ps_set (i := 7) nd rfl (Or.inl rfl) (pe_lst (pa_cons (pe_tup (pa_cons (pv 2) (pa_cons pe_int pa_nil))) (pa_cons (pe_tup (pa_cons (pe_op op_addS (pe_op op_addS (pv 2) pe_str) (pv 3)) (pa_cons pe_int pa_nil))) (pa_cons (pe_tup (pa_cons (pe_op op_addS (pe_callTy (call_strO (op_Promise___str__ S) hr (by decide) pass0) (by rfl) (n_str S) (by decide +kernel) (pa_cons (pv 1) pa_nil)) pe_str) (pa_cons pe_int pa_nil))) (pa_cons (pe_tup (pa_cons (pe_op op_addS (pe_callTy (call_strO (op_Promise___str__ S) hr (by decide) pass0) (by rfl) (n_str S) (by decide +kernel) (pa_cons (pv 1) pa_nil)) pe_str) (pa_cons pe_int pa_nil))) (pa_cons (pe_tup (pa_cons pe_str (pa_cons pe_int pa_nil))) pa_nil)))))))
    (pss_cons (ps_set (i := 7) nd rfl (Or.inl rfl) (pe_op op_cat (pv 7) (pe_lst (pa_cons (pe_tup (pa_cons (pe_op op_addS (pe_op op_addS (pv 2) pe_str) (pv 4)) (pa_cons pe_int pa_nil))) (pa_cons (pe_tup (pa_cons (pe_op op_addS pe_str (pe_callTy (call_strO (op_Promise___str__ S) hr (by decide) pass0) (by rfl) (n_str S) (by decide +kernel) (pa_cons (pv 1) pa_nil))) (pa_cons pe_int pa_nil))) (pa_cons (pe_tup (pa_cons (pe_op op_addS (pe_op op_addS (pv 2) pe_str) (pv 4)) (pa_cons pe_int pa_nil))) pa_nil))))))
    (pss_cons (ps_for PassesOwn.never rfl (pi_list (pv 7)) (pg_tup (by rfl) (pgs_cons (pg_name (i := 10) nd rfl (Or.inr rfl)) (pgs_cons (pg_name (i := 8) nd rfl (Or.inl rfl)) pgs_nil)))
      (pss_one (ps_if (pt_cmpR (op_neD hr.units) (pe_lam (T := T_all K) (k := 5) (g__law_refused S) (d__law_refused S) (b__law_refused S) sc__law_refused rfl (.inl rfl) (fun _ => refused_gives S) TB hcode (.head _) (fun p hp e => tall_u S p hp _ (.head _) e) (hr.mono (by decide)) (LamX.lamS_by (sc := defScope s__law_words_right) (by decide +kernel)) rfl (fun _ _ _ _ _ => rfl) (fun A outer s H E f c' hr' => (pe_cm (cm_Promise_read S) hr' (by decide) (passes_call (takes_of rfl rfl rfl rfl) (fun _ _ _ _ h => h)) (pe_glob (v := .ref (ga K "Promise")) rfl (g_Promise S) rfl) (pa_cons (pv 10) pa_nil)))) (pe_tup (pa_cons pe_int (pa_cons (pv 8) pa_nil))) (nomark _)) (pss_one (ps_ret pe_bl)) pss_nil)))
    (pss_cons (ps_set (i := 9) nd rfl (Or.inr rfl) (pe_f (cl__law_pick S) hr (by decide) pass0 (pa_cons (pv 0) (pa_cons (pe_lst (pa_cons pe_non (pa_cons pe_int (pa_cons pe_bl (pa_cons (pe_tup pa_nil) (pa_cons (pe_lst (pa_cons (pe_callTy (call_strO (op_Promise___str__ S) hr (by decide) pass0) (by rfl) (n_str S) (by decide +kernel) (pa_cons (pv 1) pa_nil)) pa_nil)) (pa_cons pe_dnewK (pa_cons (pv 1) pa_nil)))))))) pa_nil))))
    (pss_one (ps_ret (pe_cmpR (op_eqD hr.units) (pe_lam (T := T_all K) (k := 5) (g__law_refused S) (d__law_refused S) (b__law_refused S) sc__law_refused rfl (.inl rfl) (fun _ => refused_gives S) TB hcode (.head _) (fun p hp e => tall_u S p hp _ (.head _) e) (hr.mono (by decide)) (LamX.lamS_by (sc := defScope s__law_words_right) (by decide +kernel)) rfl (fun _ _ _ _ _ => rfl) (fun A outer s H E f c' hr' => (pe_cm (cm_Promise_read S) hr' (by decide) (passes_call (takes_of rfl rfl rfl rfl) (fun _ _ _ _ h => h)) (pe_glob (v := .ref (ga K "Promise")) rfl (g_Promise S) rfl) (pa_cons (pv 9) pa_nil)))) (pe_tup (pa_cons pe_int (pa_cons pe_int pa_nil))) (nomark _)))))))))))))), ?_⟩
    try dsimp only [cxOf_K]
    obtain ⟨p, c, a, z, b, t, n, rfl, hP, hn, ⟨dx, ha⟩, hV, hT, k⟩ := h
    have lp := hV.strOk.2.2
    refine go_start (σ' := [_, _, none, none, none, none, none, none, none, none, none, none]) rfl ?_
    walk_at "gm"
    refine ⟨a, z, b, t, rfl, ⟨dx, ha⟩, hV, _, rfl, ?_⟩
    walk_at "gm"
    refine go_split (by decide +kernel) (by omega) fun q0 G0 nq0 sq0 hq0 => ?_
    rw [hV.split] at hq0
    have hq0' : G0 q0 = some (.lst [.str z, .str (toString b : Str), .str (toString t : Str)]) := hq0
    clear hq0
    walk_at "gm"
    rename_i way G1 w0 w1 P1 k1
    refine ⟨_, rfl, log_num (by decide) (by decide), ?_⟩
    walk_at "gm"
    rename_i ql Hl nl sl hl wr Hw hwr Pw kw l Hl2 nl2 sl2 hl2
    have lp' : l ≠ p := by walk_at "ne"
    have hal : H a = some (.ins (ga K "Promise") dx (prF z b t)) := ha
    have ha2 : Hl2 a = some (.ins (ga K "Promise") dx (prF z b t)) := by walk_at "hp"
    have ap : a ≠ p := by walk_at "ne"
    have T2 : LamX.Tabs (T_all K) Hl2 := by walk_at "tb"
    have P2 : Pn Hl2 p c (n + 2) := by walk_at "pen"
    have lcn : l ≠ c := by walk_at "nc"
    obtain ⟨m, rfl⟩ := Int.eq_ofNat_of_zero_le w0
    have m3 : m < 3 := by omega
    refine mark_R (fun σ' H' => ∃ (w : Str), BadAt m w ∧ σ' = [some (.ref p), some (.ref a), some (.str z), some (.str (toString b : Str)), some (.str (toString t : Str)), some (.int m), some wr, none, none, none, none, some (.ref l)] ∧
      H' l = some (.lst (([z, (toString b : Str), (toString t : Str)].set m w).map V.str)) ∧ Pn H' p c (n + 3) ∧ LamX.Tabs (T_all K) H' ∧ H' a = some (.ins (ga K "Promise") dx (prF z b t))) ?_ ?_
    · rintro σ' H' ⟨w, B, rfl, hl, P, T, ha'⟩
      have sum := hV.sum m3 B
      walk_at "gm"
      refine ref_text (.int 0) (.int (m : Nat)) T (fun F1 E1 Q1 x1 tf er => ?_) (fun r F2 x2 T2 hr => ?_)
      · walk_at "gm"
        refine go_join (.of (by walk_at "hp")) (Nat.le_trans sum (by decide)) ?_
        walk_at "gm"
        exact ref_go (hV.wrong m3 B) er
      walk_at "gm"
      rename_i q1 F3 nq1 sq1 hq1
      refine go_nePair (.of (sq1 _ _ hr)) (.of hq1) ?_
      have V0 := hV.b0
      have V1 := hV.b1
      have V2 := hV.t0
      have V3 := hV.t1
      have l0 := name_len hV.name
      have l1 := len_num (i := b) (by omega) (by omega)
      have l2 := len_num (i := t) (by omega) (by omega)
      have y1 : (" 1" : Str).length = 2 := by decide +kernel
      have y2 : (" " : Str).length = 1 := by decide +kernel
      have y3 : (" 0 " : Str).length = 3 := by decide +kernel
      have y4 : ("  " : Str).length = 2 := by decide +kernel
      walk_at "ws"
      refine ⟨a, z, b, t, rfl, ⟨dx, by walk_at "hp"⟩, hV, _, rfl, ?_⟩
      walk_at "ws"
      refine ⟨a, z, b, t, rfl, ⟨dx, by walk_at "hp"⟩, hV, _, rfl, ?_⟩
      walk_at "ws"
      refine ⟨a, z, b, t, rfl, ⟨dx, by walk_at "hp"⟩, hV, _, rfl, ?_⟩
      walk_at "ws"
      rename_i a1 E1 n1 s1 h1 a2 E2 n2 s2 h2 a3 E3 n3 s3 h3 a4 E4 n4 s4 h4 a5 E5 n5 s5 h5 a6 E6 n6 s6 h6 a7 E7 n7 s7 h7 a8 E8 n8 s8 h8 a9 E9 n9 s9 h9 a10 E10 n10 s10 h10 a11 E11 n11 s11 h11
      have TE : LamX.Tabs (T_all K) E11 := by walk_at "tb"
      have PE' : Pn E11 p c (n + 3) := by walk_at "pen"
      have aE : E11 a = some (.ins (ga K "Promise") dx (prF z b t)) := by walk_at "hp"
      have its : ∀ x ∈ [V.ref a1, V.ref a2, V.ref a3, V.ref a4, V.ref a5, V.ref a7, V.ref a8, V.ref a9], ∃ (ta : Addr) (xn : Str × Nat), x = .ref ta ∧ xn ∈ others z b t ∧ E11 ta = some (.tup [.str xn.1, .int (xn.2 : Nat)]) := by
        intro x hx
        simp only [List.mem_cons, List.not_mem_nil, or_false] at hx
        rcases hx with rfl | rfl | rfl | rfl | rfl | rfl | rfl | rfl
        · exact ⟨_, (z, 1), rfl, by simp [others], by walk_at "hp"⟩
        · exact ⟨_, ((z ++ " ") ++ (toString b : Str), 2), rfl, by simp [others], by walk_at "hp"⟩
        · exact ⟨_, (strP z b t ++ " 1", 3), rfl, by simp [others], by walk_at "hp"⟩
        · exact ⟨_, (strP z b t ++ " ", 3), rfl, by simp [others], by walk_at "hp"⟩
        · exact ⟨_, ("", 0), rfl, by simp [others], by walk_at "hp"⟩
        · exact ⟨_, ((z ++ " 0 ") ++ (toString t : Str), 1), rfl, by simp [others], by walk_at "hp"⟩
        · exact ⟨_, (" " ++ strP z b t, 0), rfl, by simp [others], by walk_at "hp"⟩
        · exact ⟨_, ((z ++ "  ") ++ (toString t : Str), 1), rfl, by simp [others], by walk_at "hp"⟩
      refine forList (xs := [V.ref a1, V.ref a2, V.ref a3, V.ref a4, V.ref a5, V.ref a7, V.ref a8, V.ref a9]) (fun i σ' H' => LamX.ExtN E11 H' ∧ LamX.Tabs (T_all K) H' ∧ ∃ u8 u10, σ' = [some (.ref p), some (.ref a), some (.str z), some (.str (toString b : Str)), some (.str (toString t : Str)), some (.int m), some wr, some (.ref a11), u8, none, u10, some (.ref l)])
        ⟨LamX.ExtN.refl _, TE, _, _, rfl⟩ (fun i σ' H' _ ⟨x, _⟩ => .of (x _ _ h11 (by intro _ z; cases z))) ?_ ?_
      · rintro i x σ' H' hi ⟨xE, tE, u8, u10, rfl⟩
        obtain ⟨ta, xn, rfl, hxn, hta⟩ := its x (List.mem_of_getElem? hi)
        have hta' : H' ta = some (.tup [.str xn.1, .int (xn.2 : Nat)]) := xE _ _ hta (by intro _ z; cases z)
        walk_at "gm"
        refine ref_text (.int 0) (.int (xn.2 : Nat)) tE (fun F1 E1 Q1 x1 tf er => ?_) (fun r F2 x2 T2 hr => ?_)
        · walk_at "gm"
          exact ref_go (hV.others xn hxn) er
        walk_at "gm"
        rename_i q1 F3 nq1 sq1 hq1
        refine go_nePair (.of (sq1 _ _ hr)) (.of hq1) ?_
        walk_at "gm"
        exact ⟨(xE.trans x2).trans (LamX.ExtN.of sq1), by walk_at "tb", _, _, rfl⟩
      · rintro σ' H' ⟨xE, tE, u8, u10, rfl⟩
        have PH : Pn H' p c (n + 3) := pn_xt xE PE'
        have aH : H' a = some (.ins (ga K "Promise") dx (prF z b t)) := xE _ _ aE (by intro _ z; cases z)
        walk_at "gm"
        refine ⟨a, z, b, t, rfl, ⟨dx, by walk_at "hp"⟩, hV, _, rfl, ?_⟩
        walk_at "gm"
        rename_i o0 O0 on0 os0 ho0 o1 O1 on1 os1 ho1 o2 O2 on2 os2 ho2 o3 O3 on3 os3 ho3 v Ov hv Pv kv
        refine ref_text (.int 0) (.int 0) (by walk_at "tb") (fun F1 E1 Q1 x1 tf er => ?_) (fun r F2 x2 T2 hr => ?_)
        · have aF : F1 a = some (.ins (ga K "Promise") dx (prF z b t)) := by walk_at "hp"
          have no : NoStr K F1 v := by
            simp only [List.mem_cons, List.not_mem_nil, or_false] at hv
            rcases hv with rfl | rfl | rfl | rfl | rfl | rfl | rfl
            · exact odd_nostr .non (by intro z q; cases q)
            · exact odd_nostr (.int _) (by intro z q; cases q)
            · exact odd_nostr (.bl _) (by intro z q; cases q)
            · exact odd_nostr (.tup (xs := []) (by walk_at "hp")) (by intro z q; cases q)
            · exact odd_nostr (.lst (xs := [.str (strP z b t)]) (by walk_at "hp")) (by intro z q; cases q)
            · exact odd_nostr (.dK (kvs := []) (by walk_at "hp")) (by intro z q; cases q)
            · exact ⟨_, tyIns (in_Promise S) aF, kit_o_Promise__str__false S⟩
          walk_at "gm"
          exact ⟨_, rfl, .inr ⟨no, er⟩⟩
        walk_at "gm"
        rename_i q1 F3 nq1 sq1 hq1
        refine go_eqPair (.of (sq1 _ _ hr)) (.of hq1) ?_
        exact k _ (Pn.mono (by walk_at "pen") (by omega)) (by walk_at "tb")
    · intro cont
      walk_at "gm"
      have put : ∀ (w : Str) (H' : Hp), BadAt m w → Pn H' p c (n + 3) → LamX.Tabs (T_all K) H' → H' a = some (.ins (ga K "Promise") dx (prF z b t)) → H' l = some (.lst [.str z, .str (toString b : Str), .str (toString t : Str)]) →
          Pn (upd H' l (.lst (([z, (toString b : Str), (toString t : Str)].set m w).map V.str))) p c (n + 3) ∧ LamX.Tabs (T_all K) (upd H' l (.lst (([z, (toString b : Str), (toString t : Str)].set m w).map V.str))) ∧ upd H' l (.lst (([z, (toString b : Str), (toString t : Str)].set m w).map V.str)) a = some (.ins (ga K "Promise") dx (prF z b t)) := by
        intro w H' B P T ha' hl'
        have al : a ≠ l := fun q => by rw [q, hl'] at ha'; cases ha'
        obtain ⟨ns, bb, gg, hp0, hc0, nn, b0', b1', cp⟩ := id P
        have lc : l ≠ c := lcn
        exact ⟨pn_kp Kp.put P lp' lc, tabs_kp T Kp.put ⟨_, hl'⟩, (upd_ne al).trans ha'⟩
      have e3 : ixN [V.str z, V.str (toString b : Str), V.str (toString t : Str)].length (m : Int) = some m := by
        unfold ixN
        rcases (show m = 0 ∨ m = 1 ∨ m = 2 by omega) with rfl | rfl | rfl <;> rfl
      have es : ∀ w : Str, [V.str z, V.str (toString b : Str), V.str (toString t : Str)].set m (.str w) = ([z, (toString b : Str), (toString t : Str)].set m w).map V.str := fun w => by
        rcases (show m = 0 ∨ m = 1 ∨ m = 2 by omega) with rfl | rfl | rfl <;> rfl
      refine go_dec (fun z0 => ?_) (fun z0 => ?_)
      · walk_at "gm"
        rename_i qp H5 nq5 sq5 hq5 v H6 hv P6 k6
        obtain ⟨w, hw, rfl⟩ := List.mem_map.mp (show v ∈ (["", "A", "abcdefghi", "1", "a_b"] : List Str).map V.str from hv)
        have hl6 : H6 l = some (.lst [.str z, .str (toString b : Str), .str (toString t : Str)]) := by walk_at "hp"
        have B : BadAt m w := by
          obtain rfl : m = 0 := by omega
          exact bad_name w hw
        obtain ⟨p1, p2, p3⟩ := put w H6 B P6 (by walk_at "tb") (by walk_at "hp") hl6
        refine go_setL hl6 e3 (es w) ?_
        exact cont _ _ ⟨w, B, rfl, upd_same, p1, p2, p3⟩
      · walk_at "gm"
        obtain ⟨w, hw, rfl⟩ := List.mem_map.mp (show wr ∈ (["", "-1", "1.0", "01", "a1", "A", (toString (1000000000000000000000000000000000000000000000000000000000000 + 1 : Int) : Str), "+1"] : List Str).map V.str from hwr)
        have B : BadAt m w := bad_num (by omega) w hw
        obtain ⟨p1, p2, p3⟩ := put w Hl2 B (Pn.mono P2 (by omega)) T2 ha2 hl2
        refine go_setL hl2 e3 (es w) ?_
        exact cont _ _ ⟨w, B, rfl, upd_same, p1, p2, p3⟩
theorem clg__law_words_right {P : Program} {w : World} {base : Heap} (S : HD sys K mg) (TB : LamX.TabB base mg (tabAt K (ga K "_law_words_right")).1 (tabAt K (ga K "_law_words_right")).2) : ClG P w K mg base CX0 8 "_law_words_right" (spWR K) := ⟨_, _, _, (fk_clg__law_words_right S TB), g__law_words_right S, (d__law_words_right S).kp, b__law_words_right S⟩
/-! ### parts that are refused -/
def BadN (H : Hp) (x : V) : Prop := ∃ n, OddV H x n ∧ ∀ w, x = .str w → w.length ≤ 1000000 ∧ isName w = false
def BadI (H : Hp) (lo : Int) (x : V) : Prop := ∃ n, OddV H x n ∧ ∀ i, x = .int i → i < lo ∨ 1000000000000000000000000000000000000000000000000000000000000 < i
theorem BadN.no {H : Hp} {x : V} (h : BadN H x) : NoName K H x := by
  obtain ⟨n, o, c⟩ := h
  by_cases q : ∃ w, x = .str w
  · obtain ⟨w, rfl⟩ := q
    exact .inl ⟨w, rfl, c w rfl⟩
  · exact .inr (odd_nostr o fun z e => q ⟨z, e⟩)
theorem BadI.no {H : Hp} {x : V} {lo : Int} (h : BadI H lo x) : NoIn K H lo 1000000000000000000000000000000000000000000000000000000000000 x := by
  obtain ⟨n, o, c⟩ := h
  by_cases q : ∃ i, x = .int i
  · obtain ⟨i, rfl⟩ := q
    exact .inl ⟨i, rfl, c i rfl⟩
  · exact .inr (odd_noint o fun z e => q ⟨z, e⟩)
theorem BadN.same {H H' : Hp} {x : V} (h : BadN H x) (s : Same H H') : BadN H' x := let ⟨n, o, c⟩ := h; ⟨n, o.same s, c⟩
theorem BadI.same {H H' : Hp} {x : V} {lo : Int} (h : BadI H lo x) (s : Same H H') : BadI H' lo x := let ⟨n, o, c⟩ := h; ⟨n, o.same s, c⟩
theorem BadN.ext {H H' : Hp} {x : V} (h : BadN H x) (s : LamX.ExtN H H') : BadN H' x := let ⟨n, o, c⟩ := h; ⟨n, o.ext s, c⟩
theorem BadI.ext {H H' : Hp} {x : V} {lo : Int} (h : BadI H lo x) (s : LamX.ExtN H H') : BadI H' lo x := let ⟨n, o, c⟩ := h; ⟨n, o.ext s, c⟩
theorem pr_bad {H : Hp} {Q : VK} {E : XK} {x y z : V} (h : (BadN H x ∧ Er1 K "BadPromise" "part" (.str "name") H E) ∨ (∃ w, x = .str w ∧ isName w = true ∧ BadI H 1 y ∧ Er1 K "BadPromise" "part" (.str "bits") H E) ∨
    (∃ w b, x = .str w ∧ isName w = true ∧ y = .int b ∧ (1 ≤ b ∧ b ≤ 1000000000000000000000000000000000000000000000000000000000000) ∧ BadI H 0 z ∧ Er1 K "BadPromise" "part" (.str "ticks") H E)) : rMake (ga K "Promise") (spPrInit K) E [x, y, z] H Q := by
  intro p dx np nd ne
  have s : Same H (upd (upd H dx (.own p)) p (.ins (ga K "Promise") dx [])) := fun a o h => by
    rw [upd_ne (ne_of_none h np), upd_ne (ne_of_none h nd)]
    exact h
  refine ⟨p, dx, x, y, z, rfl, upd_same, .inr ?_⟩
  rcases h with ⟨h, e⟩ | ⟨w, rfl, hw, h, e⟩ | ⟨w, b, rfl, hw, rfl, hb, h, e⟩
  · exact .inl ⟨(h.same s).no, er1_sm s e⟩
  · exact .inr (.inl ⟨w, rfl, hw, (h.same s).no, er1_sm s e⟩)
  · exact .inr (.inr ⟨w, b, rfl, hw, rfl, hb, (h.same s).no, er1_sm s e⟩)
theorem odd_nopr (S : HD sys K mg) {H : Hp} {v : V} {n : String} (h : OddV H v n) : NoPr K H v := by
  have ty := h.ty (K := K)
  cases h with
  | int i => exact ⟨_, ty, kit_int__o_Promise__false S⟩
  | non => exact ⟨_, ty, kit_NoneType__o_Promise__false S⟩
  | bl b => exact ⟨_, ty, kit_bool__o_Promise__false S⟩
  | str s => exact ⟨_, ty, kit_str__o_Promise__false S⟩
  | lst e => exact ⟨_, ty, kit_list__o_Promise__false S⟩
  | tup e => exact ⟨_, ty, kit_tuple__o_Promise__false S⟩
  | dK e => exact ⟨_, ty, kit_dict__o_Promise__false S⟩
theorem reads_all {w w1 w2 : Str} {k : Str → Int → Int → Prop} {er : Nat → Prop} (h0 : isName w = true) (h1 : Tells w1 1 1000000000000000000000000000000000000000000000000000000000000) (h2 : Tells w2 0 1000000000000000000000000000000000000000000000000000000000000) (hk : k w (valW w1) (valW w2)) : ReadsP [w, w1, w2] k er :=
  ⟨fun u e _ => ⟨fun u1 e1 _ => ⟨fun u2 e2 _ => ⟨fun _ => by cases e; cases e1; cases e2; exact hk, fun q => absurd q (by simp)⟩, fun q => absurd h2 (q w2 rfl)⟩, fun q => absurd h1 (q w1 rfl)⟩, fun q => by rw [q w rfl] at h0; cases h0⟩
theorem nf_of (S : HD sys K mg) {H : Hp} {v : V} {n : String} (h : OddV H v n) : PySem.W.notFirst K (ga K "Promise") (.type n) = true := by
  cases h with
  | int i => exact fr_Promise_int S
  | non => exact fr_Promise_NoneType S
  | bl b => exact fr_Promise_bool S
  | str s => exact fr_Promise_str S
  | lst e => exact fr_Promise_list S
  | tup e => exact fr_Promise_tuple S
  | dK e => exact fr_Promise_dict S
def spLaw (K : PySem.W.Frag) : Sp := fun vs H Q _ => ∃ (a : Addr) (ns : List Int), vs = [.ref a] ∧ SqL K H a (ns.map V.int) ∧ LamX.Tabs (T_all K) H ∧ ∀ H', Q (.bl true) H'
theorem law_ok {P : Program} {w : World} {base : Heap} (S : HD sys K mg) (TB : LamX.TabB base mg (tabAt K (ga K "law")).1 (tabAt K (ga K "law")).2) (TB__law_words_right : LamX.TabB base mg (tabAt K (ga K "_law_words_right")).1 (tabAt K (ga K "_law_words_right")).2) : FnOkG P w K mg base CX0 9 (Pl.adr K (Pl.fn "law")) (fdAt K (Pl.adr K (Pl.fn "law"))) ["_law_script"] (spLaw K) := by
  have hcode := code_of (d_law S)
  refine (d_law S).okGD sc_law (fun vs H Q E h => ?_) (fun A outer s H vs Q E hgd hr h => ?_)
  · repeat (first | (obtain ⟨rfl, _⟩ := h; rfl) | (obtain ⟨_, h⟩ := h))
  · have nd := sc_law.nd
    refine ⟨_, PSs.nox ((pss_cons (ps_set (i := 1) nd rfl (Or.inl rfl) (pe_f (cl__law_pen S) hr (by decide) pass0 (pa_cons (pv 0) pa_nil)))
    (pss_cons (ps_for PassesOwn.never rfl (pi_range1 (by rfl) (n_range S) (pa_cons pe_int pa_nil)) (pg_name (i := 2) nd rfl (Or.inl rfl))
      (pss_cons (ps_set (i := 12) nd rfl (Or.inr rfl) (pe_ix ix_list (pe_f (cl__law_names S) hr (by decide) pass0 (pa_cons (pv 1) pa_nil)) pe_int (fun _ _ => rfl)))
    (pss_cons (ps_set (i := 11) nd rfl (Or.inr rfl) (pe_f (cl__law_pick S) hr (by decide) pass0 (pa_cons (pv 1) (pa_cons (pe_lst (pa_cons pe_int (pa_cons (pe_op op_add pe_int (pe_f (cl__law_draw S) hr (by decide) pass0 (pa_cons (pv 1) (pa_cons pe_int pa_nil)))) (pa_cons (pe_op op_pow pe_int pe_int) (pa_cons (pe_op op_sub (pe_op op_sub (pe_op op_pow pe_int pe_int) pe_int) (pe_f (cl__law_draw S) hr (by decide) pass0 (pa_cons (pv 1) (pa_cons pe_int pa_nil)))) pa_nil))))) pa_nil))))
    (pss_cons (ps_set (i := 3) nd rfl (Or.inl rfl) (pe_f (cl__law_pick S) hr (by decide) pass0 (pa_cons (pv 1) (pa_cons (pe_lst (pa_cons pe_int (pa_cons (pe_f (cl__law_draw S) hr (by decide) pass0 (pa_cons (pv 1) (pa_cons pe_int pa_nil))) (pa_cons (pe_op op_pow pe_int pe_int) (pa_cons (pe_op op_add (pe_op op_pow pe_int pe_int) (pe_f (cl__law_draw S) hr (by decide) pass0 (pa_cons (pv 1) (pa_cons pe_int pa_nil)))) pa_nil))))) pa_nil))))
    (pss_cons (ps_asg (pe_tup (pa_cons (pe_mke (mke_Promise S) hr (by decide) pass_none (pa_cons (pv 12) (pa_cons (pv 11) (pa_cons (pv 3) pa_nil)))) (pa_cons (pe_mkeK0 (K' := K) rfl (mkk_Promise_ticks_bits_name S) hr (by decide) pass_none (pk_cons (pv 3) (pk_cons (pv 11) (pk_cons (pv 12) pk_nil)))) pa_nil))) (pg_tup (by rfl) (pgs_cons (pg_name (i := 14) nd rfl (Or.inr rfl)) (pgs_cons (pg_name (i := 4) nd rfl (Or.inl rfl)) pgs_nil))))
    (pss_cons (ps_if (pt_cmpR (op_neD hr.units) (pe_lst (pa_cons (pe_fld (pv 14) rfl) (pa_cons (pe_fld (pv 14) rfl) (pa_cons (pe_fld (pv 14) rfl) (pa_cons (pe_callTy (call_strO (op_Promise___str__ S) hr (by decide) pass0) (by rfl) (n_str S) (by decide +kernel) (pa_cons (pv 14) pa_nil)) pa_nil))))) (pe_lst (pa_cons (pv 12) (pa_cons (pv 11) (pa_cons (pv 3) (pa_cons (pe_op op_addS (pe_op op_addS (pe_op op_addS (pe_op op_addS (pv 12) pe_str) (pe_callTy call_str_int (by rfl) (n_str S) (by decide +kernel) (pa_cons (pv 11) pa_nil))) pe_str) (pe_callTy call_str_int (by rfl) (n_str S) (by decide +kernel) (pa_cons (pv 3) pa_nil))) pa_nil))))) (nomark _)) (pss_one (ps_ret pe_bl)) pss_nil)
    (pss_cons (ps_if (PW.pt (pw_or (pt_cmpR (op_neq (op_Promise___eq__ S) (ne_Promise S) (in_Promise S).hm hr (by decide) pass0) (pv 14) (pv 4) (nomark _)) (pw_or (pt_cmpR (op_neq (op_Promise___eq__ S) (ne_Promise S) (in_Promise S).hm hr (by decide) pass0) (pe_cmK (cmk_Promise_read_text S) hr (by decide) pass_none (pe_glob (v := .ref (ga K "Promise")) rfl (g_Promise S) rfl) (pk_cons (pe_callTy (call_strO (op_Promise___str__ S) hr (by decide) pass0) (by rfl) (n_str S) (by decide +kernel) (pa_cons (pv 14) pa_nil)) pk_nil)) (pv 14) (nomark _)) (pw_or (pt_cmpR (op_own (op_Promise___eq__ S) (fun _ _ => rfl) hr (by decide) pass0) (pv 14) (pe_callTy (call_strO (op_Promise___str__ S) hr (by decide) pass0) (by rfl) (n_str S) (by decide +kernel) (pa_cons (pv 14) pa_nil)) (nomark _)) (pw_or1 (pt_not (pt_cmpR (op_neq (op_Promise___eq__ S) (ne_Promise S) (in_Promise S).hm hr (by decide) pass0) (pv 14) (pe_tup (pa_cons (pv 12) (pa_cons (pv 11) (pa_cons (pv 3) pa_nil)))) (nomark _)))))))) (pss_one (ps_ret pe_bl)) pss_nil)
    (pss_cons (ps_par (i := 5) (j := 6) (by rfl) nd rfl rfl (by decide) rfl rfl (pa_cons (pe_mke (mke_Promise S) hr (by decide) pass_none (pa_cons (pv 12) (pa_cons (pv 11) (pa_cons (pe_callB (call_max2 rfl) (by rfl) (n_max S) (by decide +kernel) (pa_cons pe_int (pa_cons (pe_op op_sub (pv 3) pe_int) pa_nil))) pa_nil)))) (pa_cons (pe_mke (mke_Promise S) hr (by decide) pass_none (pa_cons pe_str (pa_cons (pv 11) (pa_cons (pv 3) pa_nil)))) pa_nil)) (by rfl))
    (pss_cons (ps_set (i := 7) nd rfl (Or.inl rfl) (pe_callB (call_max2 rfl) (by rfl) (n_max S) (by decide +kernel) (pa_cons pe_int (pa_cons (pe_op op_sub (pv 3) pe_int) pa_nil))))
    (pss_cons (ps_if (PW.pt (pw_or (pt_cmpR op_ne (pe_cmpR (op_own (op_Promise___le__ S) (fun _ _ => rfl) hr (by decide) pass_none) (pv 5) (pv 14) (nomark _)) (pe_cmpR op_le (pv 7) (pv 3) (nomark _)) (nomark _)) (pw_or (pt_cmpR op_ne (pe_cmpR (op_own (op_Promise___le__ S) (fun _ _ => rfl) hr (by decide) pass_none) (pv 14) (pv 5) (nomark _)) (pe_cmpR op_le (pv 3) (pv 7) (nomark _)) (nomark _)) (pw_or1 (pt_cmpR (op_own (op_Promise___le__ S) (fun _ _ => rfl) hr (by decide) pass_none) (pv 14) (pv 6) (nomark _)))))) (pss_one (ps_ret pe_bl)) pss_nil)
    (pss_cons (ps_set (i := 8) nd rfl (Or.inl rfl) (pe_callB (call_max2 rfl) (by rfl) (n_max S) (by decide +kernel) (pa_cons pe_int (pa_cons (pe_op op_sub (pv 11) pe_int) pa_nil))))
    (pss_cons (ps_if (PW.pt (pw_or (pt_not (pt_cmpR (op_own (op_Promise___le__ S) (fun _ _ => rfl) hr (by decide) pass_none) (pv 14) (pv 4) (nomark _))) (pw_or1 (pt_cmpR (op_own (op_Promise___le__ S) (fun _ _ => rfl) hr (by decide) pass_none) (pe_mke (mke_Promise S) hr (by decide) pass_none (pa_cons (pv 12) (pa_cons (pv 8) (pa_cons (pv 3) pa_nil)))) (pe_mke (mke_Promise S) hr (by decide) pass_none (pa_cons (pv 12) (pa_cons (pe_op op_add (pv 8) pe_int) (pa_cons (pv 3) pa_nil)))) (nomark _))))) (pss_one (ps_ret pe_bl)) pss_nil)
    (pss_cons (ps_asg (pe_tup (pa_cons (pe_f (cl__law_odd S) hr (by decide) pass0 (pa_cons (pv 1) pa_nil)) (pa_cons (pe_f (cl__law_pick S) hr (by decide) pass0 (pa_cons (pv 1) (pa_cons (pe_lst (pa_cons pe_non (pa_cons pe_str (pa_cons pe_str (pa_cons pe_int (pa_cons pe_bl (pa_cons (pe_tup (pa_cons pe_str pa_nil)) (pa_cons pe_str pa_nil)))))))) pa_nil))) pa_nil))) (pg_tup (by rfl) (pgs_cons (pg_name (i := 13) nd rfl (Or.inr rfl)) (pgs_cons (pg_name (i := 15) nd rfl (Or.inr rfl)) pgs_nil))))
    (pss_cons (ps_set (i := 10) nd rfl (Or.inr rfl) (pe_f (cl__law_pick S) hr (by decide) pass0 (pa_cons (pv 1) (pa_cons (pe_lst (pa_cons pe_non (pa_cons pe_int (pa_cons (pe_un un_neg pe_int) (pa_cons pe_bl (pa_cons pe_str (pa_cons (pe_op op_add (pe_op op_pow pe_int pe_int) pe_int) (pa_cons (pe_tup (pa_cons pe_int pa_nil)) pa_nil)))))))) pa_nil))))
    (pss_cons (ps_set (i := 16) nd rfl (Or.inr rfl) (pe_f (cl__law_pick S) hr (by decide) pass0 (pa_cons (pv 1) (pa_cons (pe_lst (pa_cons pe_non (pa_cons (pe_un un_neg pe_int) (pa_cons pe_bl (pa_cons pe_str (pa_cons (pe_op op_add (pe_op op_pow pe_int pe_int) pe_int) (pa_cons (pe_lst (pa_cons pe_int pa_nil)) pa_nil))))))) pa_nil))))
    (pss_cons (ps_set (i := 9) nd rfl (Or.inl rfl) (pe_lst (pa_cons (pe_lam (T := T_all K) (k := 4) (g__law_refused S) (d__law_refused S) (b__law_refused S) sc__law_refused rfl (.inl rfl) (fun _ => refused_gives S) TB hcode (.tail _ (.head _)) (fun p hp e => tall_u S p hp _ (.tail _ (.head _)) e) (hr.mono (by decide)) (LamX.lamS_by (sc := defScope s_law) (by decide +kernel)) rfl (fun _ _ _ _ _ => rfl) (fun A outer s H E f c' hr' => (pe_mkek (K' := K) rfl (mke_Promise S) hr' (by decide) (passes_call (takes_of rfl rfl rfl rfl) (fun _ _ _ _ h => h)) (pa_cons (pv 15) (pa_cons (pv 10) (pa_cons (pv 16) pa_nil)))))) pa_nil)))
    (pss_cons (ps_expr (pe_bm PySem.F.plainAttrs_list PySem.F.slot_list_append PySem.F.type_list_append mt_append (pv 9) (pa_cons (pe_lam (T := T_all K) (k := 4) (g__law_refused S) (d__law_refused S) (b__law_refused S) sc__law_refused rfl (.inl rfl) (fun _ => refused_gives S) TB hcode (.tail _ (.head _)) (fun p hp e => tall_u S p hp _ (.tail _ (.head _)) e) (hr.mono (by decide)) (LamX.lamS_by (sc := defScope s_law) (by decide +kernel)) rfl (fun _ _ _ _ _ => rfl) (fun A outer s H E f c' hr' => (pe_mkek (K' := K) rfl (mke_Promise S) hr' (by decide) (passes_call (takes_of rfl rfl rfl rfl) (fun _ _ _ _ h => h)) (pa_cons (pv 12) (pa_cons (pv 10) (pa_cons (pv 16) pa_nil)))))) pa_nil)))
    (pss_cons (ps_expr (pe_bm PySem.F.plainAttrs_list PySem.F.slot_list_append PySem.F.type_list_append mt_append (pv 9) (pa_cons (pe_lam (T := T_all K) (k := 4) (g__law_refused S) (d__law_refused S) (b__law_refused S) sc__law_refused rfl (.inl rfl) (fun _ => refused_gives S) TB hcode (.tail _ (.head _)) (fun p hp e => tall_u S p hp _ (.tail _ (.head _)) e) (hr.mono (by decide)) (LamX.lamS_by (sc := defScope s_law) (by decide +kernel)) rfl (fun _ _ _ _ _ => rfl) (fun A outer s H E f c' hr' => (pe_mkek (K' := K) rfl (mke_Promise S) hr' (by decide) (passes_call (takes_of rfl rfl rfl rfl) (fun _ _ _ _ h => h)) (pa_cons (pv 12) (pa_cons (pv 11) (pa_cons (pv 16) pa_nil)))))) pa_nil)))
    (pss_cons (ps_expr (pe_bm PySem.F.plainAttrs_list PySem.F.slot_list_append PySem.F.type_list_append mt_append (pv 9) (pa_cons (pe_lam (T := T_all K) (k := 4) (g__law_refused S) (d__law_refused S) (b__law_refused S) sc__law_refused rfl (.inl rfl) (fun _ => refused_gives S) TB hcode (.tail _ (.head _)) (fun p hp e => tall_u S p hp _ (.tail _ (.head _)) e) (hr.mono (by decide)) (LamX.lamS_by (sc := defScope s_law) (by decide +kernel)) rfl (fun _ _ _ _ _ => rfl) (fun A outer s H E f c' hr' => (pe_cmpR (op_ownk (K' := K) rfl (op_Promise___le__ S) (fun _ _ => rfl) hr' (by decide) (passes_call (takes_of rfl rfl rfl rfl) (fun _ _ _ _ h => h))) (pv 14) (pv 13) (nomark _)))) pa_nil)))
    (pss_one (ps_if (PW.pt (pw_or (pt_cmpR (op_neD hr.units) (pv 9) (pe_lst (pa_cons pe_str (pa_cons pe_str (pa_cons pe_str (pa_cons pe_str pa_nil))))) (nomark _)) (pw_or1 (pt_not (pt_val (pe_fG (clg__law_words_right S TB__law_words_right) hr (by decide) hgd pass0 (pa_cons (pv 1) (pa_cons (pv 14) pa_nil)))))))) (pss_one (ps_ret pe_bl)) pss_nil)))))))))))))))))))))
    (pss_one (ps_ret pe_bl))))), ?_⟩
    try dsimp only [cxOf_K]
    obtain ⟨a, ns, rfl, hS, hT, k⟩ := h
    have cCPromise := C_Promise S
    have naPromisename := na_Promise_name S
    have naPromisebits := na_Promise_bits S
    have naPromiseticks := na_Promise_ticks S
    refine go_start (σ' := [_, none, none, none, none, none, none, none, none, none, none, none, none, none, none, none, none]) rfl ?_
    walk_at "gm"
    refine ⟨a, ns, rfl, hS, fun p c H0 P0 s0 np nc => ?_⟩
    have T0 : LamX.Tabs (T_all K) H0 := by walk_at "tb"
    walk_at "gm"
    refine forRange (fun i σ' H' => Pn H' p c (i * 40) ∧ LamX.Tabs (T_all K) H' ∧ ∃ u2 u3 u4 u5 u6 u7 u8 u9 u10 u11 u12 u13 u14 u15 u16, σ' = [some (.ref a), some (.ref p), u2, u3, u4, u5, u6, u7, u8, u9, u10, u11, u12, u13, u14, u15, u16]) ⟨P0, T0, none, none, none, none, none, none, none, none, none, none, none, none, none, none, none, rfl⟩ ?_ ?_
    · rintro i σ H1 hi ⟨P1, T1, u2, u3, u4, u5, u6, u7, u8, u9, u10, u11, u12, u13, u14, u15, u16, rfl⟩
      have hi7 : i < 7 := hi
      walk_at "gm"
      refine ⟨p, c, _, rfl, P1, by omega, fun q ys H2 nq hq e6 hys P2 k2 => ?_⟩
      obtain ⟨y, r, rfl⟩ : ∃ y r, ys = y :: r := List.exists_cons_of_length_pos (by omega)
      obtain ⟨z, rfl, hz, hzo⟩ := hys y List.mem_cons_self
      walk_at "gm"
      refine go_ixl (.of hq) (v := .str z) (by
        show atI _ ((0 : Nat) : Int) = _
        rw [atI_nat (Nat.zero_lt_succ _)]
        rfl) ?_
      walk_at "gm"
      rename_i da G1 da0 da1 Pa ka db G2 db0 db1 Pb kb l1 G3 nl1 sl1 hl1 v G4 hv Pv kv dc G5 dc0 dc1 Pc kc dd G6 dd0 dd1 Pd kd l2 G7 nl2 sl2 hl2 w G8 hw Pw kw
      obtain ⟨b, rfl, b0, b1⟩ : ∃ b : Int, v = .int b ∧ 1 ≤ b ∧ b ≤ 1000000000000000000000000000000000000000000000000000000000000 := by
        simp only [List.mem_cons, List.not_mem_nil, or_false] at hv
        rcases hv with rfl | rfl | rfl | rfl <;> exact ⟨_, rfl, by omega, by omega⟩
      obtain ⟨t, rfl, t0, t1⟩ : ∃ t : Int, w = .int t ∧ 0 ≤ t ∧ t ≤ 1000000000000000000000000000000000000000000000000000000000000 := by
        simp only [List.mem_cons, List.not_mem_nil, or_false] at hw
        rcases hw with rfl | rfl | rfl | rfl <;> exact ⟨_, rfl, by omega, by omega⟩
      have hV : PrV z b t := ⟨hz, b0, b1, t0, t1⟩
      refine pr_make hV fun x Hx nx sx hx => ?_
      walk_at "gm"
      refine pr_make hV fun y Hy ny sy hy => ?_
      obtain ⟨dx, hx'⟩ := id hx
      obtain ⟨dy, hy'⟩ := id hy
      have l0 := name_len hz
      have l1 := len_num (i := b) (by omega) (by omega)
      have l2' := len_num (i := t) (by omega) (by omega)
      have y2 : (" " : Str).length = 1 := by decide +kernel
      walk_at "gm"
      refine ⟨x, z, b, t, rfl, ⟨dx, by walk_at "hp"⟩, hV, _, rfl, ?_⟩
      walk_at "ws"
      refine ⟨_, rfl, log_num (by omega) (by omega), ?_⟩
      walk_at "ws"
      refine ⟨_, rfl, log_num (by omega) (by omega), ?_⟩
      walk_at "ws"
      rename_i la La nla sla hla lb Lb nlb slb hlb
      have es : strP z b t = (((z ++ " ") ++ (toString b : Str)) ++ " ") ++ (toString t : Str) := by
        unfold strP
        have em : Str.empty ++ z = z := by
          refine TL.ext_tl ?_
          rw [TL.tl_append, show TL.tl Str.empty = [] from by decide +kernel, List.nil_append]
        rw [em]
      rw [es] at hla
      refine go_ne4 (.of (slb _ _ hla)) (.of hlb) (name_sp hz).2 (es ▸ hV.strOk.2.1) ?_
      have hxb : Lb x = some (.ins (ga K "Promise") dx (prF z b t)) := by walk_at "hp"
      have hyb : Lb y = some (.ins (ga K "Promise") dy (prF z b t)) := by walk_at "hp"
      walk_at "gm"
      refine go_nec hxb (tyIns (in_Promise S) hyb) (fr_Promise_o_Promise S) ⟨x, _, z, b, t, rfl, ⟨dx, hxb⟩, .inl ⟨y, z, b, t, rfl, ⟨dy, hyb⟩, ?_⟩⟩
      rw [decide_eq_true ⟨rfl, rfl, rfl⟩]
      refine ⟨true, rfl, ?_⟩
      walk_at "gm"
      refine ⟨x, z, b, t, rfl, ⟨dx, hxb⟩, hV, _, rfl, ?_⟩
      walk_at "gm"
      refine ⟨rfl, _, rfl, .inl ⟨_, rfl, Nat.le_trans hV.strOk.2.2 (by decide), by rw [hV.split]; exact Nat.le_of_ble_eq_true rfl, fun w hw => ?_, ?_⟩⟩
      · rw [hV.split] at hw
        simp only [List.mem_cons, List.not_mem_nil, or_false] at hw
        rcases hw with rfl | rfl | rfl <;> omega
      rw [hV.split]
      refine reads_all hz (tells_num (by omega) b0 b1) (tells_num t0 t0 t1) fun r Hr sr hr => ?_
      rw [(num_ok (show 0 ≤ b by omega)).2.1, (num_ok t0).2.1] at hr
      obtain ⟨dr, hr'⟩ := id hr
      have hxr := sr _ _ hxb
      have hyr := sr _ _ hyb
      walk_at "gm"
      refine go_nec hr' (tyIns (in_Promise S) hxr) (fr_Promise_o_Promise S) ⟨r, _, z, b, t, rfl, hr, .inl ⟨x, z, b, t, rfl, ⟨dx, hxr⟩, ?_⟩⟩
      rw [decide_eq_true ⟨rfl, rfl, rfl⟩]
      refine ⟨true, rfl, ?_⟩
      walk_at "gm"
      refine ⟨x, z, b, t, rfl, ⟨dx, hxr⟩, hV, _, rfl, ?_⟩
      walk_at "gm"
      refine go_own hxr (OddV.str _).ty (fr_Promise_str S) ⟨x, _, z, b, t, rfl, ⟨dx, hxr⟩, .inr ⟨odd_nopr S (.str _), ?_⟩⟩
      walk_at "gm"
      rename_i tu Hu nu su hu
      have hxu := su _ _ hxr
      have hyu := su _ _ hyr
      refine go_nec hxu (OddV.tup hu).ty (fr_Promise_tuple S) ⟨x, _, z, b, t, rfl, ⟨dx, hxu⟩, .inr ⟨odd_nopr S (.tup hu), ?_⟩⟩
      refine ⟨false, rfl, ?_⟩
      walk_at "gm"
      have hV1 : PrV z b (if 1 < t - 1 then t - 1 else 1) := ⟨hz, b0, b1, by split <;> omega, by split <;> omega⟩
      generalize etl : (if 1 < t - 1 then t - 1 else 1) = tl at hV1 ⊢
      refine pr_make hV1 fun x1 Hx1 nx1 sx1 hx1 => ?_
      walk_at "gm"
      refine pr_make (z := "other") ⟨by decide +kernel, b0, b1, t0, t1⟩ fun x2 Hx2 nx2 sx2 hx2 => ?_
      obtain ⟨dx1, hx1'⟩ := id hx1
      obtain ⟨dx2, hx2'⟩ := id hx2
      have hxe := sx2 _ _ (sx1 _ _ hxu)
      have hye := sx2 _ _ (sx1 _ _ hyu)
      have hx1e := sx2 _ _ hx1'
      walk_at "gm"
      rw [etl]
      refine go_own hx1e (tyIns (in_Promise S) hxe) (fr_Promise_o_Promise S) ⟨x1, _, z, b, tl, rfl, ⟨dx1, hx1e⟩, .inl ⟨x, z, b, t, rfl, ⟨dx, hxe⟩, ?_⟩⟩
      walk_at "gm"
      refine go_ndec (fun q => absurd (by simp) q) (fun _ => ?_)
      walk_at "gm"
      refine go_own hxe (tyIns (in_Promise S) hx1e) (fr_Promise_o_Promise S) ⟨x, _, z, b, t, rfl, ⟨dx, hxe⟩, .inl ⟨x1, z, b, tl, rfl, ⟨dx1, hx1e⟩, ?_⟩⟩
      walk_at "gm"
      refine go_ndec (fun q => absurd (by simp) q) (fun _ => ?_)
      walk_at "gm"
      refine go_own hxe (tyIns (in_Promise S) hx2') (fr_Promise_o_Promise S) ⟨x, _, z, b, t, rfl, ⟨dx, hxe⟩, .inl ⟨x2, _, b, t, rfl, ⟨dx2, hx2'⟩, ?_⟩⟩
      rw [decide_eq_false (fun q => hzo q.1)]
      walk_at "gm"
      refine go_own hxe (tyIns (in_Promise S) hye) (fr_Promise_o_Promise S) ⟨x, _, z, b, t, rfl, ⟨dx, hxe⟩, .inl ⟨y, z, b, t, rfl, ⟨dy, hye⟩, ?_⟩⟩
      rw [decide_eq_true ⟨rfl, rfl, Int.le_refl _⟩]
      walk_at "gm"
      have hV3 : PrV z (if 1 < b - 1 then b - 1 else 1) t := ⟨hz, by split <;> omega, by split <;> omega, t0, t1⟩
      have hV4 : PrV z ((if 1 < b - 1 then b - 1 else 1) + 1) t := ⟨hz, by split <;> omega, by split <;> omega, t0, t1⟩
      generalize (if 1 < b - 1 then b - 1 else 1) = fw at hV3 hV4 ⊢
      refine pr_make hV3 fun x3 Hx3 nx3 sx3 hx3 => ?_
      walk_at "gm"
      refine pr_make hV4 fun x4 Hx4 nx4 sx4 hx4 => ?_
      obtain ⟨dx3, hx3'⟩ := id hx3
      obtain ⟨dx4, hx4'⟩ := id hx4
      have hx3e := sx4 _ _ hx3'
      have hxf := sx4 _ _ (sx3 _ _ hxe)
      walk_at "gm"
      refine go_own hx3e (tyIns (in_Promise S) hx4') (fr_Promise_o_Promise S) ⟨x3, _, z, fw, t, rfl, ⟨dx3, hx3e⟩, .inl ⟨x4, z, fw + 1, t, rfl, ⟨dx4, hx4'⟩, ?_⟩⟩
      rw [decide_eq_false (fun q => by have := q.2.1; omega)]
      walk_at "gm"
      refine ⟨p, c, _, rfl, by walk_at "pen", by omega, fun vo Ho hvo vp Po ko => ?_⟩
      have hxo := ko _ _ hxf (by walk_at "ne")
      have To : LamX.Tabs (T_all K) Ho := by walk_at "tb"
      walk_at "gm"
      rename_i ta Ha nta sta hta lsx Hls nls sls hls vs' Hvs hvs Pvs kvs' tp Htp ntp stp htp tb Hb ntb stb htb lb' Hlb nlb' slb' hlb' vb Hvb hvb Pvb kvb lw Hlw nlw slw hlw lw2 Hlw2 nlw2 slw2 hlw2 vw Hvw hvw Pvw kvw
      have xp : x ≠ p := by walk_at "ne"
      have hxw : Hvw x = some (.ins (ga K "Promise") dx (prF z b t)) := by walk_at "hp"
      have htaw : Hvw ta = some (.tup [.str "a"]) := by walk_at "hp"
      have htbw : Hvw tb = some (.tup [.int 1]) := by walk_at "hp"
      have hlww : Hvw lw = some (.lst [.int 1]) := by walk_at "hp"
      have Tw : LamX.Tabs (T_all K) Hvw := by walk_at "tb"
      have bs : BadN Hvw vs' := by
        simp only [List.mem_cons, List.not_mem_nil, or_false] at hvs
        rcases hvs with rfl | rfl | rfl | rfl | rfl | rfl | rfl
        · exact ⟨_, .non, by intro w e; cases e⟩
        · exact ⟨_, .str _, by intro w e; cases e; exact ⟨by decide +kernel, by decide +kernel⟩⟩
        · exact ⟨_, .str _, by intro w e; cases e; exact ⟨by decide +kernel, by decide +kernel⟩⟩
        · exact ⟨_, .int _, by intro w e; cases e⟩
        · exact ⟨_, .bl _, by intro w e; cases e⟩
        · exact ⟨_, .tup htaw, by intro w e; cases e⟩
        · exact ⟨_, .str _, by intro w e; cases e; exact ⟨by decide +kernel, by decide +kernel⟩⟩
      have bb : BadI Hvw 1 vb := by
        simp only [List.mem_cons, List.not_mem_nil, or_false] at hvb
        rcases hvb with rfl | rfl | rfl | rfl | rfl | rfl | rfl
        · exact ⟨_, .non, by intro w e; cases e⟩
        · exact ⟨_, .int _, by intro w e; cases e; omega⟩
        · exact ⟨_, .int _, by intro w e; cases e; omega⟩
        · exact ⟨_, .bl _, by intro w e; cases e⟩
        · exact ⟨_, .str _, by intro w e; cases e⟩
        · exact ⟨_, .int _, by intro w e; cases e; omega⟩
        · exact ⟨_, .tup htbw, by intro w e; cases e⟩
      have bw : BadI Hvw 0 vw := by
        simp only [List.mem_cons, List.not_mem_nil, or_false] at hvw
        rcases hvw with rfl | rfl | rfl | rfl | rfl | rfl
        · exact ⟨_, .non, by intro w e; cases e⟩
        · exact ⟨_, .int _, by intro w e; cases e; omega⟩
        · exact ⟨_, .bl _, by intro w e; cases e⟩
        · exact ⟨_, .str _, by intro w e; cases e⟩
        · exact ⟨_, .int _, by intro w e; cases e; omega⟩
        · exact ⟨_, .lst hlww, by intro w e; cases e⟩
      have ob : ∃ n, OddV Hvw vo n := by
        obtain ⟨n, o⟩ := hvo
        exact ⟨n, by walk_at "od"⟩
      refine ref_part (.str "name") Tw (fun F1 E1 Q1 xf tf er => ?_) (fun H5 x5 T5 => ?_)
      · walk_at "gm"
        exact pr_bad (.inl ⟨bs.ext xf, er⟩)
      walk_at "gm"
      rename_i lh Hlh nlh slh hlh
      refine ref_part (.str "bits") (by walk_at "tb") (fun F1 E1 Q1 xf tf er => ?_) (fun H6 x6 T6 => ?_)
      · walk_at "gm"
        exact pr_bad (.inr (.inl ⟨z, rfl, hz, bb.ext ((x5.trans (.of slh)).trans xf), er⟩))
      walk_at "gm"
      rename_i Hlh2 klh2 hlh2
      have NT : NoT Hvw lh := nt_xt x5 (nt_no nlh)
      have XT0 : LamX.ExtN Hvw Hlh2 := xt_ot' klh2 ((x5.trans (.of slh)).trans x6) NT
      refine ref_part (.str "ticks") (by walk_at "tb") (fun F1 E1 Q1 xf tf er => ?_) (fun H7 x7 T7 => ?_)
      · walk_at "gm"
        exact pr_bad (.inr (.inr ⟨z, b, rfl, hz, rfl, ⟨b0, b1⟩, bw.ext (XT0.trans xf), er⟩))
      walk_at "gm"
      rename_i Hlh3 klh3 hlh3
      have XT1 : LamX.ExtN Hvw Hlh3 := xt_ot' klh3 (XT0.trans x7) NT
      refine ref_part (.str "promise") (by walk_at "tb") (fun F1 E1 Q1 xf tf er => ?_) (fun H8 x8 T8 => ?_)
      · obtain ⟨n, o⟩ := ob
        have oF : OddV F1 vo n := o.ext (XT1.trans xf)
        have xF : F1 x = some (.ins (ga K "Promise") dx (prF z b t)) := by walk_at "hp"
        walk_at "gm"
        exact go_own xF oF.ty (nf_of S oF) ⟨x, _, z, b, t, rfl, ⟨dx, xF⟩, .inr ⟨odd_nopr S oF, er⟩⟩
      walk_at "gm"
      rename_i Hlh4 klh4 hlh4 lz Hz nlz slz hlz
      refine go_neStrs (ns := ["name", "bits", "ticks", "promise"]) (ms := ["name", "bits", "ticks", "promise"]) (.of (slz _ _ hlh4)) (.of hlz) (by decide +kernel) (by decide +kernel) ?_
      rw [decide_eq_true rfl]
      walk_at "gm"
      have Pz : Pn Hz p c (i * 40 + 30) := Pn.mono (by walk_at "pen") (by omega)
      refine ⟨p, c, x, z, b, t, _, rfl, Pz, by omega, ⟨dx, by walk_at "hp"⟩, hV, by walk_at "tb", fun H9 P9 T9 => ?_⟩
      walk_at "gm"
      exact ⟨Pn.mono P9 (by omega), T9, _, _, _, _, _, _, _, _, _, _, _, _, _, _, _, rfl⟩
    · rintro σ H1 ⟨P1, T1, u2, u3, u4, u5, u6, u7, u8, u9, u10, u11, u12, u13, u14, u15, u16, rfl⟩
      walk_at "gm"
      exact k _
end
section
open PySem.W
def loose : List PySem.Str := ([Str.ofString "_wall", Str.ofString "CreditError", Str.ofString "BadInput", Str.ofString "BadPromise", Str.ofString "BadText", Str.ofString "MOST_LETTERS", Str.ofString "is_integer", Str.ofString "is_within", Str.ofString "is_name", Str.ofString "is_figures", Str.ofString "tells_number", Str.ofString "check_text", Str.ofString "Words", Str.ofString "words_of", Str.ofString "MOST_NUMBER", Str.ofString "Promise", Str.ofString "check_promise", Str.ofString "_law_pen", Str.ofString "_law_draw", Str.ofString "_law_pick", Str.ofString "_law_mixed", Str.ofString "_law_names", Str.ofString "_law_odd", Str.ofString "_law_refused", Str.ofString "_law_words_right"] : List PySem.Str)
abbrev R : OpenRow := OpenLaw.row PySem.Challenge.rw_creditturns_k74_promises_made_and_read
abbrev q : Program := view R.prog [30]
abbrev hk : Hook := hookC 5 sys
def ob (s : SharedT) : AlC := obsC 5 sys (HandSHeadRun.getT s)
theorem ob_eq (s : SharedT) : ob s = hk.obs s.abs := obsC_eq (HandSHeadRun.getT_eq s)
theorem run (w : World) : HandSHeadRun.RunEqI R q hk ob 20000 loose w := by
  unfold HandSHeadRun.RunEqI
  kernel_rfl
end
end K74
open PySem PySem.W PySem.Calls PyProof.Rows
theorem PySem.Challenge.cw_creditturns_k74_promises_made_and_read_holds : PySem.Challenge.rw_creditturns_k74_promises_made_and_read.Holds := by
  w_on; o_law
  refine HandSHeadRun.head_imp (r := OpenLaw.row PySem.Challenge.rw_creditturns_k74_promises_made_and_read) (q := K74.q) (H := K74.hk) (ob := K74.ob) (M := 20000) (loose := K74.loose) (d := HandSHeadRun.topDef (OpenLaw.row PySem.Challenge.rw_creditturns_k74_promises_made_and_read).prog 30) (kwd := []) K74.ob_eq
    K74.run (by kernel_rfl) (by kernel_rfl) (by kernel_rfl) (by rfl) (by first | assumption | decide +kernel) (by decide +kernel) ⟨rfl, rfl, rfl, rfl, rfl, by decide +kernel⟩ ?hw ?hc
  case hw => w_witness2
  case hc =>
    refine CT.walk_ofGE (l := PySem.Challenge.rw_creditturns_k74_promises_made_and_read) (n := 63) (k := 9) (x := "_law_script") (CX := fun _ => L2.CX0) rfl (by decide) (by kernel_rfl) ⟨rfl, by decide, by decide⟩ ?F (fun _ _ _ _ _ z => z)
    intro w mg fa h Y G hmg0
    obtain ⟨K, KX, c⟩ := Y
    have S : CT.HD K74.sys K mg := CT.HD.of KX G c
    have hmg : mg ("law" : PySem.Str) = some (.ref fa) := by
      have e : (HandSHeadRun.topDef (OpenLaw.row PySem.Challenge.rw_creditturns_k74_promises_made_and_read).prog 30).name = ("law" : PySem.Str) := by kernel_rfl
      rw [← e]
      exact hmg0
    have e := hmg.symm.trans (K74.g_law S)
    cases e
    obtain ⟨t1, t2, t3⟩ := CT.tabs_of KX c
    refine ⟨K, KX, CT.fdAt K (He.ga K "law"), _, K74.spLaw K, t1, t2, t3, fun s v => (L2.FunD.bindsA (ps := ["_law_script"]) (K74.d_law S) (fun _ _ _ _ _ _ us hl => match us, hl with | [_], _ => rfl)) s [v] rfl, fun H a ns hl _ hH hS => ⟨a, ns, rfl, hS, K74.tabs_two (hH _ (.head _)) (hH _ (.tail _ (.head _))), fun _ => rfl⟩, fun base _ _ TB => (K74.law_ok S (TB _ (.tail _ (.head _))) (TB _ (.head _)))⟩
