import PyProof.Rows.All
import Wide.All
import OpenK.AllK
import Wide.FinOn
import HandS.ForMost
import HandS.ForExc
import HandS.IsInst
import HandS.ExcInit
import HandS.Lambda
import HandS.Property
import HandS.ClsMeth
import HandS.Wide
import HandS.WideMore
import HandS.Style
import HandS.Flow
import HandS.OwnEq
import HandS.ExcIs
import HandS.ExcField
import HandS.ExcValue
import HandS.MakeKw
import HandS.Defaults
import HandS.Star
import HandS.EndTab
import HandS.Gcd
import HandS.StrMore
import HandS.StrSplit
import HandS.FStr
import HandS.Deep
import HandS.DeepEq
import HandS.SetKeys
import HandS.DictComp
import HandS.Conv
import HandS.Codes
import HandS.Zip
import HandS.SortInts
import HandS.TupAny
import HandS.Evl
import HandS.Steps
import KE.KExcIs
import KE.KOpsOwn
import KE.KIntText
import PyProof.Rows.StrOr
import HandS.AnyAll
import HandS.Walk
import HandS.Small
import HandS.SetFor
import HandS.Strs
import KE.KStar
import KE.IntTextText
import KE.KCallOwn
import HandS.MakeKwOnly
import HandS.Head3
import HandS.HeadHook4
import HandS.HeadWalk
import PySem.Challenge.RW_creditturns_k05_ratios_written_and_read
set_option Elab.async false
set_option linter.all false
set_option maxRecDepth 100000
set_option maxHeartbeats 4000000
namespace CT
open PySem PySem.Spec PyProof.Rows L2
abbrev St := L2.St

/-! ### caught exceptions that outlive their clause -/
/-- a caught exception stands at a: its class, the address of its own dict -/
def ExK (cls : Value) (d : Option Addr) (a : Addr) : HO :=
  .ext fun h => ∃ (oe : Obj) (vs : Array Value), h.get? a = some oe ∧ Zc cls d oe ∧ oe.data = .fields vs
theorem exK_ok {P : Program} {w : World} {H : Hp} {h : Heap} {a : Addr} {cls : Value} {d : Option Addr} {oe : Obj} {vs : Array Value}
    (e : h.get? a = some oe) (z : Zc cls d oe) (dd : oe.data = .fields vs) : ObjOk P w H h a (ExK cls d a) :=
  ⟨⟨oe, vs, e, z, dd⟩, ⟨oe, e⟩, fun _ _ ⟨o, v, q, r⟩ k => ⟨o, v, k o q, r⟩⟩
theorem exK_at {P : Program} {w : World} {H : Hp} {h : Heap} {a : Addr} {cls : Value} {d : Option Addr} (hok : HOk P w H h) (e : H a = some (ExK cls d a)) :
    ∃ (oe : Obj) (vs : Array Value), h.get? a = some oe ∧ Zc cls d oe ∧ oe.data = .fields vs := by
  have x := hok a _ e
  have x' : ObjOk P w H h a (.ext fun h => ∃ (oe : Obj) (vs : Array Value), h.get? a = some oe ∧ Zc cls d oe ∧ oe.data = .fields vs) := x
  exact x'.1

/-- an object that is there, made since the entry, is tracked from now on -/
theorem track {X : Cx} {pins : List (Addr × Obj)} {σ : St} {H : Hp} {s : Shared} {a : Addr} {o : HO} (I : Inv X pins σ H s) (hn : H a = none)
    (n0 : X.s_0.heap.get? a = none) (nL : a ≠ X.env.locals) (np : ∀ p ∈ X.pn ++ pins, p.1 ≠ a) (nc : ∀ x c, X.env.cells.lookup x = some c → c ≠ a)
    (new : ObjOk X.prog X.w (upd H a o) s.heap a o) : Inv X pins σ (upd H a o) s := by
  have ne0 : ∀ b u, X.s_0.heap.get? b = some u → b ≠ a := fun b u e z => by
    rw [z, n0] at e
    cases e
  refine ⟨I.ok, I.os, I.bare, ⟨I.base.keep, I.base.slot, fun b u e n hx => ?_, I.base.there, fun b xs e => ?_, fun b u v e => ?_, fun b ps e => ?_⟩, I.loc, I.cell, ?_, fun x c e => ?_, fun p hp => ?_, I.hok.laidN (fun _ _ q => q) hn new, I.len⟩
  · exact (upd_ne (ne0 b u e)).trans (I.base.free b u e n hx)
  · have q := I.base.tups b xs e
    rw [upd_ne (ne_of_none q hn)]
    exact q
  · have q := I.base.frzs b u v e
    rw [upd_ne (ne_of_none q hn)]
    exact q
  · obtain ⟨m, q⟩ := I.base.tbls b ps e
    exact ⟨m, by rw [upd_ne (ne_of_none q hn)]; exact q⟩
  · rw [upd_ne (Ne.symm nL)]
    exact I.free
  · rw [upd_ne (nc x c e)]
    exact I.freeC x c e
  · obtain ⟨h1, h2, h3⟩ := I.pin p hp
    exact ⟨h1, by rw [upd_ne (np p hp)]; exact h2, h3⟩

/-- what the clause 'except x as n' wishes, where the exception stays tracked behind the suite -/
def wKeep (K : PySem.W.Frag) (c : Value) (i : Nat) (ts : Addr → Value → Option Addr → TS) (Wout : WX) (D : Ends) : WX := fun cls d σ H =>
  ∃ b, PySem.W.exmOne K cls c = some b ∧
    (b = true → ∀ a, H a = none → ts a cls d
      { nx := fun σ' H' => D.nx (σ'.set i none) (upd H' a (ExK cls d a)), rt := fun v H' => D.rt v (upd H' a (ExK cls d a)),
        bk := fun σ' H' => D.bk (σ'.set i none) (upd H' a (ExK cls d a)), ct := fun σ' H' => D.ct (σ'.set i none) (upd H' a (ExK cls d a)) }
      (σ.set i (some (.ref a))) H) ∧
    (b = false → Wout cls d σ H)

/-- an address that no frame, pin, cell or older object has -/
structure Apart (X : Cx) (pins : List (Addr × Obj)) (a : Addr) : Prop where
  loc : a ≠ X.env.locals
  fra : a ∉ X.fs
  old : X.s_0.heap.get? a = none
  pin : ∀ p ∈ X.pn ++ pins, p.1 ≠ a
  cel : ∀ y k, X.env.cells.lookup y = some k → k ≠ a

/-- the exception a (class cls, dict d) has come down before a clause of X; g: the state without it, B: its ground -/
structure Fallen (X : Cx) (B : Heap) (g : Shared) (pins : List (Addr × Obj)) (σ : St) (H : Hp) (a : Addr) (cls : Value) (d : Option Addr) (s : Shared) : Prop where
  frm : X.stack = X.env :: X.outer
  loc : X.env.frame = some X.env.locals
  inv : Inv X pins σ H g
  gnd : ∀ b o, g.heap.get? b = some o → b ∉ frs X.stack → B.get? b = some o
  upt : g.heap.UpToSlots s.heap
  oss : s.os = g.os
  gns : AllBare s.gens
  fly : HandSPX.FlyingZ B X.stack a (Zc cls d) s.heap
  new : H a = none
namespace Fallen
variable {X : Cx} {B : Heap} {g s : Shared} {pins : List (Addr × Obj)} {σ : St} {H : Hp} {a : Addr} {cls : Value} {d : Option Addr}
theorem now (F : Fallen X B g pins σ H a cls d s) : Inv X pins σ H s := F.inv.landed F.gnd F.fly.1 F.upt F.oss F.gns
theorem to (F : Fallen X B g pins σ H a cls d s) {h : Heap} (fly : HandSPX.FlyingZ B X.stack a (Zc cls d) h) (u : s.heap.UpToSlots h) :
    Fallen X B g pins σ H a cls d { s with heap := h } :=
  { F with upt := F.upt.trans u, oss := F.oss, gns := F.gns, fly := fly }
/-- frames hold no fields -/
theorem out (F : Fallen X B g pins σ H a cls d s) : a ∉ frs X.stack := by
  intro inn
  obtain ⟨o, vs, there, -, dd⟩ := F.fly.there
  rcases F.fly.2.2.1.mem inn with ⟨_, q, there', no⟩
  obtain rfl : o = q := Option.some.inj (there.symm.trans there')
  exact no vs dd
/-- what stands without the exception stands elsewhere -/
theorem els (F : Fallen X B g pins σ H a cls d s) {b : Addr} {o : Obj} (e : g.heap.get? b = some o) : b ≠ a := by
  rintro rfl
  have q := (F.gnd b o e F.out).symm.trans F.fly.2.1
  exact nomatch q
theorem apart (F : Fallen X B g pins σ H a cls d s) (hex : X.ex = []) : Apart X pins a where
  loc := by
    rintro rfl
    refine F.out ?_
    rw [F.frm]
    exact List.mem_filterMap.mpr ⟨X.env, List.mem_cons.mpr (.inl rfl), F.loc⟩
  fra := fun inn => by
    rcases List.mem_filterMap.mp inn with ⟨en, at', q⟩
    refine F.out ?_
    rw [F.frm]
    exact List.mem_filterMap.mpr ⟨en, List.mem_cons.mpr (.inr at'), q⟩
  old := Option.eq_none_iff_forall_ne_some.mpr fun o e => by
    obtain ⟨o', q⟩ := F.inv.base.there a o e (hex ▸ List.not_mem_nil)
    exact F.els q rfl
  pin := fun p at' => F.els (F.inv.pin p at').1
  cel := fun y k e => by
    obtain ⟨_, _, q, _⟩ := F.inv.cell y k e
    exact F.els q
/-- the suite of the clause begins -/
theorem suit (F : Fallen X B g pins σ H a cls d s) (ap : Apart X pins a) : ∃ oe vs, s.heap.get? a = some oe ∧ Zc cls d oe ∧ oe.data = .fields vs ∧
    Inv (X.suite a ((a, oe) :: (X.pn ++ pins))) [] σ H s := by
  obtain ⟨oe, vs, e, z, dd⟩ := F.fly.there
  exact ⟨oe, vs, e, z, dd, F.now.suite e dd F.new ap.loc ap.fra⟩
/-- the clause's class is read, and the exception is held against it -/
theorem asked (F : Fallen X B g pins σ H a cls d s) (ap : Apart X pins a) {x : Str} {c : Value} {np : Pos} {yes : Bool} {Q : Bool → Shared → Prop} {E : Value → Shared → Prop}
    (hc : Names X x c) (m : PySem.W.exmOne X.K cls c = some yes) (q : Q yes s) :
    wpAny (model X.prog X.w) (X.A.mark (some (.ref a))) (eval (.Name x np) X.env) (fun k s1 => wpAny (model X.prog X.w) (X.A.mark (some (.ref a))) (excMatches (.ref a) k) Q E s1) E s := by
  obtain ⟨oe, vs, e, z, _, S⟩ := F.suit ap
  have kind : PySem.W.Looks (model X.prog X.w) s.heap (typeOf (.ref a)) cls := fun _ _ _ _ k r => wpAny_typeOf_ref (k _ _ e) (z.1.symm ▸ r)
  have last := (PySem.W.exm_one (M := model X.prog X.w) F.now.kIn kind m).here (A := X.A.mark (some (.ref a))) (E := E) q
  rcases hc with ⟨hg, nd, own | ⟨own, blt, nn⟩⟩
  · exact ld_glob (X := X.suite a ((a, oe) :: (X.pn ++ pins))) S hg own last nd
  · exact ld_blt (X := X.suite a ((a, oe) :: (X.pn ++ pins))) S hg own blt last nn nd
/-- no clause takes it: on it flies -/
theorem onward (F : Fallen X B g pins σ H a cls d s) {Wout : WX} {Q : Flow → Shared → Prop} (tk : Takes X Wout) (w : Wout cls d σ H) :
    wpAny (model X.prog X.w) X.A (handleBy (.ref a) X.env []) Q X.xe s := by
  have rise : wpAny (model X.prog X.w) X.A (setFlight (.ref a) X.env.frame) (fun _ s1 => wpAny (model X.prog X.w) X.A (throw (.ref a) : Sem Flow) Q X.xe s1) X.xe s := by
    rw [F.loc]
    exact HandSPX.setFlight_upZ F.fly fun h1 held u1 => wpAny_throw (tk _ _
      ⟨a, B, g, pins, σ, H, cls, d, rfl, F.inv, F.gnd, F.upt.trans u1, .inr (.inr held), F.new, F.oss, F.gns, w⟩)
  obtain ⟨oe, vs, T, _, _, e, _, dd, at1, _⟩ := F.fly.2.2.2
  refine wpAny_handleBy_nil ?_
  unfold PySem.passOn
  have some1 : ((Value.ref T == Value.none) = true) = False := by simp
  refine wpAny_bind (wpAny_field e dd at1 ?_)
  simp only [some1, if_false]
  first
    | exact wpAny_bind rise
    | exact wpAny_bind (wpAny_pure (wpAny_bind rise))
end Fallen

section
variable {X : Cx} {x n : Str} {c : Value} {i : Nat} {body suite : List Stmt} {b0 : Stmt} {np pos pos' : Pos} {tb : WX → TS}
  {ts : Addr → Value → Option Addr → TS} {Wout : WX}
theorem ps_try_keep (hs : X.stack = X.env :: X.outer) (hf : X.env.frame = some X.env.locals) (hex : X.ex = []) (hN : X.N.Nodup) (hi : X.N[i]? = some n)
    (hln : X.env.kindOf n = some .local) (hc : Names X x c) (tk : Takes X Wout)
    (hb : ∀ (W : WX) (pn : List (Addr × Obj)) (xe : Value → Shared → Prop), Takes (X.tr pn xe) W →
      PassesOwn (model X.prog X.w) X.A X.env xe → PSs (X.tr pn xe) body (tb W))
    (hsu : ∀ (a : Addr) (oe : Obj) (cls : Value) (d : Option Addr) (pn : List (Addr × Obj)), Zc cls d oe → (∃ vs, oe.data = .fields vs) →
      PSs (X.suite a ((a, oe) :: pn)) (b0 :: suite) (ts a cls d)) :
    PS X (.Try body [.ExceptHandler (some (.Name x np)) (some n) (b0 :: suite) pos'] [] [] pos) (fun D σ H => tb (wKeep X.K c i ts Wout D) D σ H) := by
  constructor
  intro pins s0 σ0 H0 D I0 begin0
  -- the clause, before an exception that has come down
  have clause : ∀ {B g σ H a cls d s}, Fallen X B g pins σ H a cls d s → wKeep X.K c i ts Wout D cls d σ H →
      wpAny (model X.prog X.w) X.A (handleBy (.ref a) X.env [.ExceptHandler (some (.Name x np)) (some n) (b0 :: suite) pos']) (SP X pins D) X.xe s := by
    intro B g σ H a cls d s F ⟨yes, mt, isIt, isnt⟩
    have ap := F.apart hex
    refine wpAny_handleBy_cons (codeAny_handlers_test (F.asked ap hc mt ?_)) nofun
    cases yes
    · exact F.onward tk (isnt rfl)
    refine codeAny_handlers_suite_as (HandSPX.lands_againZ F.fly fun h1 fly1 u1 => ?_)
    obtain ⟨oe, vs, _, z, dd, S⟩ := (F.to fly1 u1).suit ap
    refine store_ok (X := X.suite a ((a, oe) :: (X.pn ++ pins))) (v := .ref a) S hN hi (.inl hln) rfl (fun s2 S2 => ?_) (.inr hln)
    -- behind the suite: the name goes, the exception is tracked
    have close : ∀ {σ' H' s'} {Q : Shared → Prop}, Inv (X.suite a ((a, oe) :: (X.pn ++ pins))) [] σ' H' s' →
        (∀ s'', Inv X pins (σ'.set i none) (upd H' a (ExK cls d a)) s'' → Q s'') →
        wpAny (model X.prog X.w) X.A (do bindName X.env n .none; unbindBehindTheSuite X.env n pos') (fun _ s'' => Q s'') X.xe s' := by
      intro σ' H' s' Q S' q
      have p0 := S'.pin (a, oe) (List.mem_append.mpr (.inl (List.mem_cons.mpr (.inl rfl))))
      exact gone_ok (track (S'.unsuite I0.ok) p0.2.1 ap.old ap.loc ap.pin ap.cel (exK_ok p0.1 z dd)) hN hi hln q
    refine wpAny_mono ((hsu a oe cls d _ z ⟨vs, dd⟩).run [] s2 _ H _ S2 (isIt rfl a F.new)) (fun f s3 end3 => ?_) (fun _ _ no => no.elim)
    cases f <;> first
      | (obtain ⟨_, _, S3, q⟩ := end3; exact close S3 fun _ J => ⟨_, _, J, q⟩)
      | (obtain ⟨_, _, _, S3, r, q⟩ := end3; exact close S3 fun _ J => ⟨_, _, _, J, r, q⟩)
  -- an exception of the body comes down
  have caught : Takes (X.tr (X.pn ++ pins) fun u s => wpAny (model X.prog X.w) X.A (noteFrame u X.env) (fun _ s1 => wpAny (model X.prog X.w) X.A (setFlight u none) (fun _ s2 =>
      wpAny (model X.prog X.w) X.A (handleBy u X.env [.ExceptHandler (some (.Name x np)) (some n) (b0 :: suite) pos']) (SP X pins D) X.xe s2) X.xe s1) X.xe s)
      (wKeep X.K c i ts Wout D) := by
    rintro u s ⟨a, B, g, pins', σ, H, cls, d, rfl, J, gnd, u0, sky, new, oss, gns, w⟩
    have sky1 : Sky B (X.env :: X.outer) a (Zc cls d) X.env.locals s.heap := hs ▸ sky
    refine Sky.land (A := X.A) Zc.steady (I0.ok.frames.trans (congrArg some hs)) hf sky1 fun h1 fly1 u1 => ?_
    exact clause { frm := hs, loc := hf, inv := J.ofTry I0.ok, gnd := gnd, upt := u0.trans u1, oss := oss, gns := gns, fly := hs ▸ fly1, new := new } w
  refine wpAny_Try_except (wpAny_mono ((hb _ _ _ caught PassesOwn.looking).run [] s0 σ0 H0 D (I0.toTry _) begin0) (fun f s1 end1 => ?_) fun _ _ q => q)
  cases f with
  | next => exact end1.elim fun σ1 h => h.elim fun H1 ⟨J, q⟩ => wpAny_execs_nil ⟨σ1, H1, J.ofTry I0.ok, q⟩
  | brk => exact end1.elim fun σ1 h => h.elim fun H1 ⟨J, q⟩ => ⟨σ1, H1, J.ofTry I0.ok, q⟩
  | cont => exact end1.elim fun σ1 h => h.elim fun H1 ⟨J, q⟩ => ⟨σ1, H1, J.ofTry I0.ok, q⟩
  | ret u => exact end1.elim fun v h => h.elim fun σ1 h => h.elim fun H1 ⟨J, r, q⟩ => ⟨v, σ1, H1, J.ofTry I0.ok, r, q⟩
end

/-! ### what is read off a caught exception -/
/-- e.f -/
def tXk (K : PySem.W.Frag) (f : Str) (te : TE) : TE := fun σ H Q => te σ H fun x H1 => ∃ (a C dd : Addr) (fs : List (Str × V)) (v : V),
  x = .ref a ∧ H1 a = some (ExK (.ref C) (some dd) a) ∧ XfC K C ∧ PySem.W.findIn K (.ref C) f = some none ∧ H1 dd = some (.xd fs) ∧ fs.lookup f = some v ∧ Q v H1
theorem pe_xk {X : Cx} {e : Expr} {te : TE} {pos : Pos} {f : Str} (he : PE X e te) (hb : attributeBase e f X.env (eval e X.env) = eval e X.env := by rfl) :
    PE X (.Attribute e f pos) (tXk X.K f te) := by
  refine ⟨fun pins s σ H Q I h => ?_⟩
  refine attr_of hb (thn (he.run pins s σ H _ I h) fun u s1 hh => ?_)
  obtain ⟨x, H1, I1, rx, a, C, dd, fs, v, ex, ea, T, hno, ed, l, q⟩ := hh
  subst ex
  obtain rfl : u = Value.ref a := rx
  obtain ⟨oe, vs, ha, hz, hd⟩ := exK_at I1.hok ea
  have hx : ObjOk X.prog X.w H1 s1.heap dd (.xd fs) := I1.hok dd _ ed
  obtain ⟨mA, hns, hr⟩ := hx
  obtain ⟨od, ho, hl⟩ := lookIn_ns hns
  obtain ⟨u, hu, ru⟩ := RelO.some_of (v := v) (o := mA f) (by rw [← l]; exact hr f)
  have J : PySem.W.InstAt s1.heap a oe C (some od) := ⟨ha, hz.1, by unfold PySem.W.notCls; rw [hd] <;> rfl, by rw [hz.2]; exact ho⟩
  exact HandSPX.exc_get I1.kIn J T.ga T.gg T.exC (PySem.W.findObj_own T.hdC hno rfl (by rw [hl, hu])) (handed_of ru) ⟨v, H1, I1.tok _, ru, q⟩
/-- isinstance(e, c) -/
def rIsK (K : PySem.W.Frag) : List V → Hp → VK → Prop := fun xs H Q => ∃ (a D : Addr) (d : Option Addr) (c : V) (cv : Value) (b : Bool),
  xs = [.ref a, c] ∧ H a = some (ExK (.ref D) d a) ∧ (∀ dd, d = some dd → ∃ fs, H dd = some (.xd fs)) ∧ ExcC K D ∧ ClsV c cv ∧
  PySem.W.kitOne K (.ref D) cv = some b ∧ Q (.bl b) H
theorem call_isX {X : Cx} : CallR X (.builtin "isinstance") (rIsK X.K) := by
  intro pins s σ H xs us Q I r h
  obtain ⟨a, D, d, c, cv, b, rfl, ea, hd, C, k, e, q⟩ := h
  obtain ⟨u1, u2, rfl, r1, r2⟩ := vals2 r
  have e2 := k.eq r2
  subst e2
  cases (show u1 = Value.ref a from r1)
  obtain ⟨oe, vs, ha, hz, hv⟩ := exK_at I.hok ea
  have hcl : (PySem.W.clsIn X.K D).isSome = true := by
    obtain ⟨cd, hc, _⟩ := PySem.W.any_some C.hd
    rw [hc]
    rfl
  have J : ∃ od, PySem.W.InstAt s.heap a oe D od := by
    cases d with
    | none => exact ⟨none, ha, hz.1, by unfold PySem.W.notCls; rw [hv] <;> rfl, by rw [hz.2]; trivial⟩
    | some dd =>
      obtain ⟨fs, ed⟩ := hd dd rfl
      obtain ⟨mA, hns, _⟩ := (show ObjOk X.prog X.w H s.heap dd (.xd fs) from I.hok dd _ ed)
      obtain ⟨od, ho, _⟩ := lookIn_ns hns
      exact ⟨some od, ha, hz.1, by unfold PySem.W.notCls; rw [hv] <;> rfl, by rw [hz.2]; exact ho⟩
  obtain ⟨od, J⟩ := J
  exact PySem.W.kia_one (PySem.W.kitx_exc hcl C.hg C.hk C.hs C.ha C.hn C.ht C.hm) I.kIn J e (fun z => nomatch z) fun tk => ⟨.bl b, H, I.kept (t' := tk) fun _ _ z => z, rfl, q⟩
end CT
namespace CT
open PySem PySem.Spec PyProof.Rows L2

/-! ### comparisons by a class's own methods, the other operand any value of a known kind -/
theorem cmp_back {X : Cx} {pins : List (Addr × Obj)} {σ : St} {Q : VK} {v : V} {u : Value} {s' : Shared} (r : RelV v u) (h : EP X pins σ Q u s') :
    PySem.W.CmpBack (EP X pins σ Q) u s' := by
  cases u with
  | notImplemented =>
    cases v <;> first
      | (have z : Value.notImplemented = _ := r; cases z)
      | (obtain ⟨t, z⟩ := r; cases z)
  | _ => exact h
def rOwnC (K : PySem.W.Frag) (C : Addr) (sp : Sp) (E : XK) : R2 := fun x y H Q => ∃ a dx fs t, x = .ref a ∧ H a = some (.ins C dx fs) ∧ TyX K H y t ∧
  PySem.W.notFirst K C t = true ∧ sp [x, y] H Q E
section
variable {X : Cx} {CX : CXT} {n : Nat} {C g : Addr} {fd : FuncData} {ps : List Str} {sp : Sp} {E : XK}
theorem op_ownC {op : CmpOp} (hop : ∀ a b, compareOp op a b = richCompare op a b) (hs : PySem.W.findIn X.K (.ref C) (cmpInfo op).2.1 = some (some (.ref g)))
    (hf : PySem.W.isFn X.K (.ref g) = true) (F : FnOk X.prog X.w X.K X.mg X.base CX n g fd ps sp) (hb : Binds X.K fd ps []) (hr : Room n X.A) (hx : Passes CX X E) :
    OpR X (compareOp op) (rOwnC X.K C sp E) := by
  intro pins s σ H x y v u Q I rx ry h
  obtain ⟨a, dx, fs, t, rfl, ha, ty, hn, q⟩ := h
  cases (show v = Value.ref a from rx)
  obtain ⟨mA, J, _⟩ := ins_get I.hok ha
  obtain ⟨od, J, _⟩ := J.look
  obtain ⟨P, Z, hp, _⟩ := kit_of I ry ty
  obtain ⟨m, hF⟩ := I.fr
  rw [hop]
  refine PySem.W.cmp_K (op := op) (tb := t) hr.units0 hF I.ok.mod.kin J (Z.ty _ _ I.kIn hp) hn hs hf ?_
  refine wpAny_mono (run_fn (us := [.ref a, u]) (vs := [.ref a, y]) F hr hb .nil hx I (.cons rfl (.cons ry .nil)) q) (fun w s' z => ?_) fun _ _ x => x
  obtain ⟨z', H', I', rz, qz⟩ := z
  exact cmp_back rz ⟨z', H', I', rz, qz⟩
end

/-! ### != by an own ==, where the class has no != of its own -/
theorem ifBuilt_K {M : Model} {K : PySem.W.Frag} {A : Around} {E : Value → Shared → Prop} {s : Shared} {x C : Addr} {ox : Obj} {od : Option Obj} {T : String} {name : Str} {id : String} {args : List Value} {Q : Option Value → Shared → Prop}
    (X : K.In s.heap) (I : PySem.W.InstAt s.heap x ox C od) (hs : PySem.W.findIn K (.ref C) name = some (some (.builtin id))) (S : Slot T name id)
    (h : wpAny M A (call (.builtin id) (.ref x :: args)) (fun v => Q (some v)) E s) : wpAny M A (callSpecialIfBound? (.ref x) name args) Q E s := by
  simp only [callSpecialIfBound?, bindSpecialIfBound?]
  refine wpAny_holding (wpAny_bind (wpAny_bind (wpAny_bind (I.type.here ((PySem.W.looks_findIn X hs).here ?_)))))
  simp only [S.bind]
  refine wpAny_bind (wpAny_askSetting (wpAny_ite ?_))
  have fin : wpAny M A (call (.builtin id) ([.ref x] ++ args) >>= fun v => pure (some v)) Q E s :=
    wpAny_bind (wpAny_mono h (fun v s' h' => wpAny_pure h') fun _ _ h' => h')
  split
  · exact wpAny_bind (wpAny_pure (wpAny_pure fin))
  · exact wpAny_tryCatch (wpAny_bind (wpAny_pure (wpAny_pure fin)))
section
variable {prog : Program} {w : World} {A : Around} {E : Value → Shared → Prop} {s : Shared} {K : PySem.W.Frag} {x C f L : Addr} {ox : Obj} {od : Option Obj} {b tb : Value} {h0 : Heap} {m : Str → Option Value}
theorem ne_K {Q : Value → Shared → Prop} (hu : A.units + 1 < cLine) (FF : PyProof.Rows.Fr h0 L s.heap m) (X0 : K.In h0) (I : PySem.W.InstAt s.heap x ox C od)
    (hb : PySem.W.Looks (model prog w) s.heap (typeOf b) tb) (hn : PySem.W.notFirst K C tb = true) (hne : PySem.W.findIn K (.ref C) "__ne__" = some (some (.builtin "object.__ne__")))
    (hs : PySem.W.findIn K (.ref C) "__eq__" = some (some (.ref f))) (hf : PySem.W.isFn K (.ref f) = true) (hm : PySem.W.mroIn K C (.type "object") = some true)
    (h : wpAny (model prog w) A.in1 (call (.ref f) [.ref x, b]) (fun v s' => ∃ r, v = .bool r ∧ Q (.bool (!r)) s') E s) :
    wpAny (model prog w) A (richCompare .NotEq (.ref x) b) Q E s := by
  have X := X0.keeps FF.keep
  have sub : PySem.W.Looks (model prog w) s.heap (isInstance (.ref x) (.type "object")) true := I.type.andThen (PySem.W.looks_mroIn X hm)
  have one : wpAny (model prog w) A (tryCompare (.ref x) (cmpInfo .NotEq).2.1 b) (fun r s' => ∃ v, r = some v ∧ Q v s') E s := by
    unfold tryCompare
    refine wpAny_bind (ifBuilt_K X I hne F.cmp_object.ne (wpAny_call (codeAny_call_builtin F.cmp_object.ne.plain F.cmpEntry_ne
      (PySem.W.check_slot F.cmpKind_ne F.cmpSplit_ne sub (F.cmpArgs_ne _ _) ?_))))
    unfold Builtin.«object.__ne__»
    refine wpAny_bind (wpAny_of_eq (a := ((Value.ref x : Value), [b])) (by first | rfl | (simp only [slotArgs]; rfl)) ?_)
    dsimp only
    refine wpAny_bind (wpAny_cRoomFor (show A.in1.units < cLine from hu) ?_)
    refine wpAny_bind (PySem.W.ifBound_K X I hs hf (wpAny_mono h (fun v s' hv => ?_) fun _ _ e => e))
    obtain ⟨r, rfl, hq⟩ := hv
    dsimp only
    refine wpAny_bind (wpAny_truthy_bool ?_)
    first
      | exact wpAny_pure ⟨_, rfl, hq⟩
      | exact wpAny_pure (wpAny_pure ⟨_, rfl, hq⟩)
      | (unfold Builtin.ret; exact wpAny_pure ⟨_, rfl, hq⟩)
  unfold richCompare
  simp only [oneThing_ref]
  refine wpAny_holding (wpAny_bind (wpAny_cRoomFor (Nat.lt_of_succ_lt hu) ?_))
  refine wpAny_bind (I.type.here (wpAny_bind (hb.here ?_)))
  split
  · rename_i q
    have e : PySem.W.subIn K tb (.ref C) = some false := by
      rcases Bool.or_eq_true_iff.mp hn with e | e
      · rw [beq_iff_eq.mp e] at q; simp at q
      · exact beq_iff_eq.mp e
    refine wpAny_bind ((PySem.W.looks_subIn X e).here ?_)
    simp only [Bool.false_eq_true, if_false]
    refine wpAny_bind (wpAny_mono one (fun r s' z => ?_) fun _ _ e => e)
    obtain ⟨v, rfl, hq⟩ := z
    exact wpAny_pure hq
  · refine wpAny_bind (wpAny_pure ?_)
    simp only [Bool.false_eq_true, if_false]
    refine wpAny_bind (wpAny_mono one (fun r s' z => ?_) fun _ _ e => e)
    obtain ⟨v, rfl, hq⟩ := z
    exact wpAny_pure hq
end

section
variable {X : Cx} {CX : CXT} {n : Nat} {C g : Addr} {fd : FuncData} {ps : List Str} {sp : Sp} {E : XK}
/-- x != y: what the own == answers, turned round -/
def rNeC (K : PySem.W.Frag) (C : Addr) (sp : Sp) (E : XK) : R2 := fun x y H Q => ∃ a dx fs t, x = .ref a ∧ H a = some (.ins C dx fs) ∧ TyX K H y t ∧
  PySem.W.notFirst K C t = true ∧ sp [x, y] H (fun v H' => ∃ r, v = .bl r ∧ Q (.bl (!r)) H') E
theorem op_neC (hne : PySem.W.findIn X.K (.ref C) "__ne__" = some (some (.builtin "object.__ne__"))) (hm : PySem.W.mroIn X.K C (.type "object") = some true)
    (hs : PySem.W.findIn X.K (.ref C) "__eq__" = some (some (.ref g))) (hf : PySem.W.isFn X.K (.ref g) = true) (F : FnOk X.prog X.w X.K X.mg X.base CX n g fd ps sp) (hb : Binds X.K fd ps [])
    (hr : Room (n + 1) X.A) (hx : Passes CX X E) : OpR X (compareOp .NotEq) (rNeC X.K C sp E) := by
  intro pins s σ H x y v u Q I rx ry h
  obtain ⟨a, dx, fs, t, rfl, ha, ty, hn, q⟩ := h
  cases (show v = Value.ref a from rx)
  obtain ⟨mA, J, _⟩ := ins_get I.hok ha
  obtain ⟨od, J, _⟩ := J.look
  obtain ⟨P, Z, hp, _⟩ := kit_of I ry ty
  obtain ⟨m, hF⟩ := I.fr
  show wpAny (model X.prog X.w) X.A (richCompare .NotEq (.ref a) u) _ _ s
  refine ne_K (by have := hr.un; omega) hF I.ok.mod.kin J (Z.ty _ _ I.kIn hp) hn hne hs hf hm ?_
  have r2 : Vals [V.ref a, y] [Value.ref a, u] := .cons rfl (.cons ry .nil)
  have hl := F.len _ _ _ _ q
  refine wpAny_call (codeAny_mono (F.run X.A.in1 X.stack s H ⟨[.ref a, u], []⟩ [.ref a, u] [.ref a, y] _ E hr.in1 I.env0.in1 (by
    have z := hb s [.ref a, u] I.kIn (by simpa using hl)
    simpa using z) r2 q) fun r s' hq => ?_)
  cases r with
  | error e => exact hx pins σ H s e s' I hq
  | ok fl =>
    cases fl with
    | ret w =>
      obtain ⟨z, H', I', rz, k, ez, qz⟩ := I.after hq
      subst ez
      cases (show w = Value.bool k from rz)
      exact ⟨k, rfl, .bl (!k), H', I', rfl, qz⟩
    | next => exact False.elim hq
    | brk => exact False.elim hq
    | cont => exact False.elim hq
end

end CT
namespace CT
open PySem PySem.Spec PyProof.Rows L2

/-! ### repr of data, where no repr is under way around -/
/-- repr(x) -/
def rRepr (K : PySem.W.Frag) : List V → Hp → VK → Prop := fun xs H Q => ∃ (x : V) (d : PyData), xs = [x] ∧ Dp K H x d ∧ d.showable = true ∧ d.hasDict = false ∧
  d.depth ≤ 60 ∧ d.shown.length ≤ sizeLine ∧ Q (.str d.shown) H
theorem call_repr {X : Cx} (hg : X.A.guards = some []) (hu : X.A.units + 64 < cLine) : CallR X (.builtin "repr") (rRepr X.K) := by
  intro pins s σ H xs us Q I r h
  obtain ⟨x, d, rfl, hd, sh, nd, dp, sz, q⟩ := h
  cases r with
  | cons rx rr =>
    rename_i u us'
    cases rr
    have fin : ∀ (tk : Tok) (t' : Nat), EP X pins σ Q (.str d.shown tk) { s with toks := t' } := fun tk t' => ⟨.str d.shown, H, I.tok _, ⟨_, rfl⟩, q⟩
    cases hd with
    | non =>
      cases (show u = Value.none from rx)
      exact PySem.P.repr_of_none (fin _ _)
    | bl b =>
      cases (show u = Value.bool b from rx)
      refine PySem.P.repr_of_bool ?_
      cases b <;> exact fin _ _
    | int i =>
      obtain ⟨t, rfl⟩ := (show ∃ t, u = Value.int i t from rx)
      exact PySem.P.repr_of_int (by simpa [PyData.showable] using sh) (fin _ _)
    | str y =>
      obtain ⟨t, rfl⟩ := (show ∃ t, u = Value.str y t from rx)
      exact PySem.P.repr_of_str (fin _ _) sz
    | lst hs ha =>
      rename_i b ys ds
      obtain ⟨as, rd⟩ := Dp.reads I _ _ u (Dp.lst hs ha) rx
      cases (show u = Value.ref b from rx)
      exact repr_of_reads' rd sh (fun z => absurd (nd.symm.trans z) (by decide)) hg (by omega) (fun _ _ e => e) (fun h' tk t' k => ⟨.str _, H, I.kept k, ⟨_, rfl⟩, q⟩) sz
    | tup hs ha =>
      rename_i b ys ds
      obtain ⟨as, rd⟩ := Dp.reads I _ _ u (Dp.tup hs ha) rx
      cases (show u = Value.ref b from rx)
      exact repr_of_reads' rd sh (fun z => absurd (nd.symm.trans z) (by decide)) hg (by omega) (fun _ _ e => e) (fun h' tk t' k => ⟨.str _, H, I.kept k, ⟨_, rfl⟩, q⟩) sz

/-! ### defs that ask for reprs: their promise holds where no repr is under way -/
structure FnOkG (P : Program) (w : World) (K : PySem.W.Frag) (mg : Str → Option Value) (base : Heap) (CX : CXT) (k : Nat) (f : Addr) (fd : FuncData) (ps : List Str) (sp : Sp) : Prop where
  len : ∀ vs H Q E, sp vs H Q E → vs.length = ps.length
  run : ∀ (A : Around) (outer : List Env) (s : Shared) (H : Hp) (args : Args) (us : List Value) (vs : List V) (Q : VK) (E : XK), Room k A → A.guards = some [] →
    Env0 P w K mg base A outer s H → BindsTo s fd args (ps.zip us) → Vals vs us → sp vs H Q E → codeAny (model P w) A (.call (.ref f) args) (CR CX outer P w H s Q E) s
theorem _root_.L2.FnOk.toG {P : Program} {w : World} {K : PySem.W.Frag} {mg : Str → Option Value} {base : Heap} {CX : CXT} {k : Nat} {f : Addr} {fd : FuncData} {ps : List Str} {sp : Sp}
    (F : FnOk P w K mg base CX k f fd ps sp) : FnOkG P w K mg base CX k f fd ps sp :=
  ⟨F.len, fun A outer s H args us vs Q E hr _ => F.run A outer s H args us vs Q E hr⟩
section
variable {X : Cx} {CX : CXT} {k : Nat} {f C : Addr} {fd : FuncData} {ps : List Str} {sp : Sp} {dvs : List V} {ds : List Value} {E : XK} {x : Str} {p pos : Pos} {e : Expr} {es : List Expr} {t : TA}
theorem run_fnG {pins : List (Addr × Obj)} {σ : St} {H : Hp} {s : Shared} {Q : VK} {us : List Value} {vs : List V} (F : FnOkG X.prog X.w X.K X.mg X.base CX k f fd ps sp)
    (hr : Room k X.A) (hgd : X.A.guards = some []) (hb : Binds X.K fd ps ds) (hd : Vals dvs ds) (hx : Passes CX X E)
    (I : Inv X pins σ H s) (r : Vals vs us) (h : sp (vs ++ dvs) H Q E) : wpAny (model X.prog X.w) X.A (call (.ref f) us) (EP X pins σ Q) X.xe s := by
  have r2 := r.append hd
  have hl : (us ++ ds).length = ps.length := by
    rw [← r2.length]
    exact F.len _ _ _ _ h
  have c := F.run X.A X.stack s H ⟨us, []⟩ (us ++ ds) (vs ++ dvs) Q E hr hgd I.env0 (hb s us I.kIn hl) r2 h
  refine wpAny_call (codeAny_mono c fun r s' hq => ?_)
  match r, hq with
  | .error e, hq => exact hx pins σ H s e s' I hq
  | .ok (.ret u), hq => exact I.after hq
  | .ok .next, hq => exact False.elim hq
  | .ok .brk, hq => exact False.elim hq
  | .ok .cont, hq => exact False.elim hq
theorem pe_callG (F : FnOkG X.prog X.w X.K X.mg X.base CX k f fd ps sp) (hr : Room k X.A) (hgd : X.A.guards = some []) (hg : Gl X x) (hm : X.mg x = some (.ref f))
    (hk : PySem.W.keepIn X.K (.ref f) = true) (hb : Binds X.K fd ps ds) (hd : Vals dvs ds) (hx : Passes CX X E) (ha : PA X (e :: es) t)
    (hdb : (x == ("__debug__" : Str)) = false := by decide) (he : starEach (e :: es) X.env = (false, eval e X.env) :: starEach es X.env := by rfl)
    (hpl : (backTo pos (starEach es X.env)).any (·.1) = false := by rfl) : PE X (.Call (.Name x p) (e :: es) [] pos) (tCall sp dvs E t) := by
  constructor
  intro pins s σ H Q I h
  refine wpAny_Call_Name_kw (ld_glob I hg hm ?_ hdb)
  refine PySem.W.callWith_K (h₀ := X.base) I.ok.mod.kin hk (thn (ha.run pos pins s σ H _ I h) fun us s1 z => ?_) he hpl
  obtain ⟨vs, H1, I1, r, q⟩ := z
  exact ⟨I1.kIn, run_fnG F hr hgd hb hd hx I1 r q⟩
end
/-- a def by its body, its promise for where no repr is under way -/
theorem _root_.L2.Fun.okG {P : Program} {w : World} {K : PySem.W.Frag} {mg : Str → Option Value} {base : Heap} {x qual : Str} {st : Stmt} {f : Addr} {fd : FuncData} {N ps : List Str} {k : Nat} {sp : Sp}
    (F : L2.Fun K x qual st f fd) (S : FnScope N ps (defScope st)) (len : ∀ vs H Q E, sp vs H Q E → vs.length = ps.length)
    (hbody : ∀ (cdv : Value) (A : Around) (outer : List Env) (s : Shared) (H : Hp) (vs : List V) (Q : VK) (E : XK), A.guards = some [] →
      Room k (A.deeper (envOfC qual (defScope st) s.heap.objs.size f cdv)) → sp vs H Q E →
      ∃ t, PSs (cxOf CX0 P w K mg base N qual (defScope st) f cdv A outer s H E).nox (defBody st) t ∧ t { nx := fun _ H' => Q .non H', rt := Q } (start N vs) H) :
    FnOkG P w K mg base CX0 (k + 1) f fd ps sp := by
  obtain ⟨oc, od, kV, doc, pm, an, cdv, ct, osl, rfl, lk, hcd⟩ := F.ex
  refine ⟨len, fun A outer s H args us vs Q E hr hgd e0 hb r hsp => ?_⟩
  exact LamX.run_ofS (N := N) lk hcd S hr e0 hb r (len _ _ _ _ hsp) fun hr' => by
    obtain ⟨t, h, q⟩ := hbody cdv A outer s H vs Q E hgd hr' hsp
    exact ⟨t, h.nox, q⟩
end CT
namespace CT
open PySem PySem.Spec PyProof.Rows L2

/-! ### the end of a law whose defs ask for reprs; tb: the tables of code objects -/
/-- the abstract heap that the law begins with: the script, locked, and the tables, empty -/
def lawH (K : PySem.W.Frag) (a : Addr) (vs : Array Value) (ns : List Int) (tb : List Addr) : Hp := fun b =>
  if b = a ∧ K.lookup a = none then some (.frz { cls := .type "list", data := .seq vs } (.lst (ns.map V.int)))
  else if b ∈ tb then some (.tbl #[]) else none
section
variable {P : Program} {w : World} {K : PySem.W.Frag} {mg mb : Str → Option Value} {CX : CXT} {k : Nat} {fa a : Addr} {cs : List (Addr × Addr)} {fd : FuncData} {x : Str} {sp : Sp}
  {s1 : Shared} {vs : List Value} {ns : List Int}
theorem law_callG (KX : K.In s1.heap) (hns : s1.heap.Ns mainGlobals mg) (hb : s1.heap.Ns builtinsNs mb) (hbb : ∀ x : Str, x ≠ "__name__" → mb x = bootBuiltins x)
    (hlim : s1.heap.NoLimit) (hg : s1.gens = #[]) (hT : ∀ p ∈ cs, s1.heap.get? p.2 = some { cls := .none, data := .fields #[] }) (nT : ∀ p ∈ cs, K.lookup p.2 = none)
    (C : ∀ p ∈ cs, PySem.W.CodeHd s1.heap p.1 p.2)
    (hbm : ∃ (bm : Addr) (ob : Obj), mg "__builtins__" = some (.ref bm) ∧ bm ≠ builtinsNs ∧ s1.heap.get? bm = some ob ∧ ob.cls = .type "module" ∧ ob.dict = some builtinsNs ∧ ob.data = .plain)
    (ha : s1.heap.get? a = some { cls := .type "list", data := .seq vs.toArray }) (hi : IntsAre vs ns) (hl : ns.length ≤ sizeLine) (hr : Room k callerA)
    (F : ∀ base : Heap, K.In base → base.Ns mainGlobals mg → (∀ p ∈ cs, LamX.TabB base mg p.1 p.2) → FnOkG P w K mg base CX k fa fd [x] sp)
    (hbind : ∀ (s : Shared) (u : Value), BindsTo s fd ⟨[u], []⟩ [(x, u)])
    (hsp : ∀ H : Hp, (∀ p ∈ cs, H p.2 = some (.tbl #[])) → SqL K H a (ns.map V.int) → sp [.ref a] H (fun v _ => v = .bl true) fun _ _ _ => False)
    (hCX : ∀ H e s', CX [] H s1 (fun _ _ _ => False) e s' → False) :
    codeAny (model P w) callerA (.call (.ref fa) ⟨[.ref a], []⟩) (fun r s' => r = .ok (.ret (.bool true)) ∧ OldK s1.heap s'.heap ∧ s'.os = s1.os ∧ AllBare s'.gens) s1 := by
  have rv : Vals (ns.map V.int) vs := vals_ints hi
  have lenV := hi.length
  let tb := cs.map (·.2)
  have inT : ∀ b, b ∈ tb → s1.heap.get? b = some { cls := .none, data := .fields #[] } := fun b q => by
    obtain ⟨p, hp, rfl⟩ := List.mem_map.mp q
    exact hT p hp
  have kT : ∀ b, b ∈ tb → K.lookup b = none := fun b q => by
    obtain ⟨p, hp, rfl⟩ := List.mem_map.mp q
    exact nT p hp
  have toT : ∀ p ∈ cs, p.2 ∈ tb := fun p hp => List.mem_map.mpr ⟨p, hp, rfl⟩
  have aNotT : a ∉ tb := fun q => by
    have z := (inT a q).symm.trans ha
    cases z
  let H := lawH K a vs.toArray ns tb
  have Ha : K.lookup a = none → H a = some (.frz { cls := .type "list", data := .seq vs.toArray } (.lst (ns.map V.int))) := fun q => if_pos ⟨rfl, q⟩
  have Ht : ∀ b, b ∈ tb → H b = some (.tbl #[]) := fun b q => by
    have n : ¬ (b = a ∧ K.lookup a = none) := fun z => aNotT (z.1 ▸ q)
    exact (if_neg n).trans (if_pos q)
  have Hn : ∀ b, ¬ (b = a ∧ K.lookup a = none) → b ∉ tb → H b = none := fun b n q => (if_neg n).trans (if_neg q)
  have HS : SqL K H a (ns.map V.int) := by
    cases q : K.lookup a with
    | none => exact .inl (.inr ⟨_, Ha q⟩)
    | some o =>
      have z := (KX a o q).symm.trans ha
      cases z
      exact .inr ⟨_, vs.toArray, _, q, rfl, rfl, rfl, by rw [List.size_toArray, lenV]; exact hl, by simpa using rv⟩
  have Hok : HOk P w H s1.heap := fun b u e => by
    by_cases h1 : b = a ∧ K.lookup a = none
    · obtain ⟨rfl, q⟩ := h1
      rw [Ha q] at e
      cases e
      exact ⟨ha, by rw [List.length_map]; exact hl, vs, _, rv, ha⟩
    · by_cases h2 : b ∈ tb
      · rw [Ht b h2] at e
        cases e
        exact inT b h2
      · rw [Hn b h1 h2] at e
        cases e
  -- what is neither a list nor an empty record of fields isn't tracked
  have off : ∀ {b : Addr} {o : Obj}, s1.heap.get? b = some o → (∀ v n, o.data ≠ .seq v n) → o.data ≠ .fields #[] → H b = none := fun {b o} e n1 n2 => by
    refine Hn b (fun z => ?_) (fun z => ?_)
    · obtain ⟨rfl, _⟩ := z
      rw [ha] at e
      cases e
      exact n1 _ _ rfl
    · rw [inT b z] at e
      cases e
      exact n2 rfl
  have offD : ∀ {b : Addr} {o : Obj} {es : Array DictEntry} {ep : Nat}, s1.heap.get? b = some o → o.data = .dict es ep → H b = none := fun {b o es ep} e d =>
    off e (fun v n z => by rw [d] at z; cases z) (fun z => by rw [d] at z; cases z)
  have toBase : ∀ {b : Addr} {o : Obj}, s1.heap.get? b = some o → H b = none → (hidT s1.heap H).get? b = some o := fun e n => hidT_get e n
  have nsB : ∀ {b : Addr} {m : Str → Option Value}, s1.heap.Ns b m → (hidT s1.heap H).Ns b m := fun {b m} z => by
    obtain ⟨o, es, ep, e, d, r⟩ := z
    exact ⟨o, es, ep, toBase e (offD e d), d, r⟩
  have KB : K.In (hidT s1.heap H) := fun b o e => toBase (KX b o e) (Hn b (fun z => by
      obtain ⟨rfl, q⟩ := z
      rw [q] at e
      cases e) fun z => by
      rw [kT b z] at e
      cases e)
  have MB : Mod K mg (hidT s1.heap H) := ⟨KB, nsB hns, ⟨mb, nsB hb, hbb⟩, by
    obtain ⟨mc, h1, h2⟩ := hlim
    exact ⟨mc, nsB h1, h2⟩⟩
  have TB : ∀ p ∈ cs, LamX.TabB (hidT s1.heap H) mg p.1 p.2 := fun p hp => by
    refine ⟨?_, ?_, fun z => ?_⟩
    · obtain ⟨o, us, file, tf, flags, tg, inF, text, tt, e1, r1, r2, r3, r4, r5, r6, r7, r8, hne⟩ := C p hp
      refine ⟨o, us, file, tf, flags, tg, inF, text, tt, toBase e1 (off e1 (fun v n z => ?_) fun z => ?_), r1, r2, r3, r4, r5, r6, r7, r8, hne⟩
      · rw [r2] at z
        cases z
      · rw [r2] at z
        cases z
        simp at r3
    · obtain ⟨bm, ob, b1, b2, b3, b4, b5, b6⟩ := hbm
      refine ⟨bm, ob, b1, b2, fun q => ?_, fun q => ?_, toBase b3 (off b3 (fun v n z => by rw [b6] at z; cases z) fun z => by rw [b6] at z; cases z), b4, b5, b6⟩
      · obtain ⟨o, es, ep, e, d, _⟩ := hns
        rw [q, e] at b3
        cases b3
        rw [d] at b6
        cases b6
      · rw [q, hT p hp] at b3
        cases b3
        cases b6
    · obtain ⟨o, es, ep, e, d, _⟩ := hns
      rw [z, hT p hp] at e
      cases e
      cases d
  have noFr : ∀ b ∈ frs ([] : List Env), H b = none := fun b z => absurd (show b ∈ ([] : List Addr) from z) (by simp)
  have E0 : Env0 P w K mg (hidT s1.heap H) callerA [] s1 H := ⟨rfl, MB, fun b o e => of_hidT e, Nat.le_of_eq (hidT_size _ _), trivial, noFr, Hok, .of_eq hg⟩
  have run := (F _ KB (nsB hns) TB).run callerA [] s1 H ⟨[.ref a], []⟩ [.ref a] [.ref a] _ _ hr rfl E0 (hbind s1 (.ref a)) (.cons rfl .nil) (hsp H (fun p hp => Ht _ (toT p hp)) HS)
  refine codeAny_mono run fun r s' h => ?_
  match r, h with
  | .error e, h => exact (hCX H e s' h).elim
  | .ok .next, h => exact False.elim h
  | .ok .brk, h => exact False.elim h
  | .ok .cont, h => exact False.elim h
  | .ok (.ret u), h =>
    obtain ⟨v, H', os, bare, un, hok', r', q⟩ := h
    have q' : v = .bl true := q
    subst q'
    obtain rfl : u = Value.bool true := r'
    have stays : ∀ b o, b ∉ tb → s1.heap.get? b = some o → s'.heap.get? b = some o := fun b o nb e => by
      by_cases h1 : b = a ∧ K.lookup a = none
      · obtain ⟨rfl, q⟩ := h1
        obtain ⟨e1, _⟩ := Hok b _ (Ha q)
        obtain ⟨e2, _⟩ := hok' b _ (un.frzs b _ _ (Ha q))
        rw [e1] at e; cases e; exact e2
      · exact un.keep b o e (Hn b h1 nb) (fun z => nomatch z) (fun z => nomatch z)
    have grew : ∀ b, b ∈ tb → ∃ more : Array Value, s'.heap.get? b = some { cls := .none, data := .fields more } := fun b z => by
      obtain ⟨more, y⟩ := un.tbls b #[] (Ht b z)
      exact ⟨_, hok' b _ y⟩
    refine ⟨rfl, ⟨fun b o e => ?_, fun b o e => ?_⟩, os, bare⟩
    · by_cases hbt : b ∈ tb
      · obtain ⟨more, hm⟩ := grew b hbt
        obtain ⟨p, hp, ep⟩ := List.mem_map.mp hbt
        have ct := ((C p hp).tab (hT p hp)).isCodeTable
        rw [ep] at ct
        rw [inT b hbt] at e
        cases e
        exact .inr (.inl ⟨ct, rfl, #[], more, rfl, by rw [Array.empty_append]; exact hm⟩)
      · exact .inl (stays b o hbt e)
    · by_cases hbt : b ∈ tb
      · obtain ⟨more, hm⟩ := grew b hbt
        exact ⟨_, hm⟩
      · exact ⟨o, stays b o hbt e⟩
end
/-- what is known of the law's promise at the head's heap h -/
def LawAtG (l : PySem.W.OpenLaw) (w : World) (K : PySem.W.Frag) (CX : CXT) (k n : Nat) (x : Str) (mg : Str → Option Value) (fa : Addr) (h : Heap) : Prop :=
  ∃ (fd : FuncData) (cs : List (Addr × Addr)) (sp : Sp), (∀ p ∈ cs, h.get? p.2 = some { cls := .none, data := .fields #[] }) ∧ (∀ p ∈ cs, K.lookup p.2 = none) ∧
    (∀ p ∈ cs, PySem.W.CodeHd h p.1 p.2) ∧ (∀ (s : Shared) (u : Value), BindsTo s fd ⟨[u], []⟩ [(x, u)]) ∧
    (∀ (H : Hp) (a : Addr) (ns : List Int), ns.length ≤ n → (∀ z ∈ ns, Builtin.Int.intBits z ≤ 1048576) → (∀ p ∈ cs, H p.2 = some (.tbl #[])) → SqL K H a (ns.map V.int) →
      sp [.ref a] H (fun v _ => v = .bl true) fun _ _ _ => False) ∧
    ∀ base : Heap, K.In base → base.Ns mainGlobals mg → (∀ p ∈ cs, LamX.TabB base mg p.1 p.2) → FnOkG l.prog w K mg base CX k fa fd [x] sp
theorem walk_ofG {l : PySem.W.OpenLaw} {n k : Nat} {q : Program} {loose : List Str} {XP : (Str → Option Value) → Heap → Prop} {YP : World → Heap → Prop} {d : DefRec}
    {K : Params → PySem.W.Frag} {CX : World → CXT} {x : Str} (hn : l.most = some n) (hn2 : n ≤ sizeLine) (hdf : d.params.defaults = []) (hr : Room k callerA)
    (hY : ∀ (w : World) (h : Heap), YP w h → (K w.params).In h)
    (F : ∀ (w : World) (mg : Str → Option Value) (fa : Addr) (h : Heap), YP w h → (K w.params).In h → h.Ns mainGlobals mg → mg d.name = some (.ref fa) →
      LawAtG l w (K w.params) (CX w) k n x mg fa h)
    (hCX : ∀ (w : World) (H : Hp) (s : Shared) (e : Value) (s' : Shared), CX w [] H s (fun _ _ _ => False) e s' → False) :
    PySem.W.WalkO q loose XP YP l.row.toRowW d [] (fun f vs => PySem.call f vs) := by
  refine Att.attach_callB hn hdf fun w s0 s1 mg mb fa o pm cd doc a vs ns G Y ho hd hcd hmg hobj hints hlen hbits hg => ?_
  have KX := hY w _ Y
  obtain ⟨fd, cs, sp, hT, nT, C, hb, hsp, hF⟩ := F w mg fa _ Y KX G.T.g hmg
  exact law_callG KX G.T.g G.T.b G.T.builtins G.T.nolimit hg hT nT C G.T.bmain hobj hints (Nat.le_trans hlen hn2) hr hF hb
    (fun H hH hS => hsp H a ns hlen hbits hH hS) fun H e s' => hCX w H s1 e s'
end CT
namespace CT
open PySem PySem.Spec PyProof.Rows L2
open He (ga ma fAd)

/-! ### facts of the written part, each a Bool that the head's run computes -/
/-- a class by its name -/
inductive Nm where
  | own (x : Str)
  | ty (n : String)
def Nm.val (K : PySem.W.Frag) : Nm → Value
  | .own x => .ref (ga K x)
  | .ty n => .type n
/-- the record of a class, over ValueError, with its own classes between -/
def oexB (K : PySem.W.Frag) (C : Addr) : Bool := match K.lookup C with
  | some ⟨.type "type", _, .cls cd, sl⟩ => (match cd.mro, sl.toList with
    | .ref C' :: bm, [_, _, _, _, some (.builtin n), _] => decide (C' = C) && (decide (n = "ValueError.__new__") && (!cd.hasDel && (cd.hasDict && HandSPX.refsVE bm)))
    | _, _ => false)
  | _ => false
theorem oexB_ok {K : PySem.W.Frag} {C : Addr} (yes : oexB K C = true) : ∃ nm q N bs bm sn sub ab col dd k0 k1 k2 k3 k5,
    K.lookup C = some (excClassObj nm q C N bs bm true sn sub ab col dd k0 k1 k2 k3 k5 "ValueError.__new__") ∧ HandSPX.refsVE bm = true := by
  unfold oexB at yes
  split at yes
  case h_2 => contradiction
  rename_i dd cd sl look
  split at yes
  case h_2 => contradiction
  rename_i C' bm k0 k1 k2 k3 n k5 line rest
  simp only [Bool.and_eq_true, decide_eq_true_eq, Bool.not_eq_true'] at yes
  rcases yes with ⟨own, new, gone, kept, refs⟩
  refine ⟨cd.name, cd.qualname, cd.ns, cd.bases, bm, cd.slotNames, cd.subclasses, cd.abstract, cd.collection, dd, k0, k1, k2, k3, k5, look.trans ?_, refs⟩
  rw [own] at line
  rw [new] at rest
  rcases sl with ⟨_⟩
  cases cd
  cases (show _ = _ from line)
  cases (show _ = _ from rest)
  cases (show _ = _ from gone)
  cases (show _ = _ from kept)
  rfl
/-- a property's record, its getter -/
def propAt (K : PySem.W.Frag) (C : Addr) (f : Str) : Addr := match PySem.W.findIn K (.ref C) f with
  | some (some (.ref p)) => p
  | _ => 0
def recHead (K : PySem.W.Frag) (p : Addr) (T : String) : Addr := match PySem.W.recIn K p T with
  | some (.ref g :: _) => g
  | _ => 0
def recB (K : PySem.W.Frag) (p : Addr) (T : String) : Bool := match PySem.W.recIn K p T with
  | some (.ref _ :: _) => true
  | _ => false
theorem recB_ok {K : PySem.W.Frag} {p : Addr} {T : String} (h : recB K p T = true) : ∃ rest, PySem.W.recIn K p T = some (.ref (recHead K p T) :: rest) := by
  unfold recB at h
  split at h
  · rename_i g rest e
    exact ⟨rest, by unfold recHead; rw [e]⟩
  · cases h
def clsMc (K : PySem.W.Frag) (C : Addr) : Value := (PySem.W.typeIn K (.ref C)).getD .none
def cvalB (K : PySem.W.Frag) (C : Addr) (f : Str) (v : V) : Bool := match PySem.W.findCls K (.ref C) (clsMc K C) f with
  | some (.val u) => He.relB v u
  | _ => false
/-- the record of a classmethod or a static method that stands in the class -/
def cmAt (K : PySem.W.Frag) (C : Addr) (m : Str) : Addr := match PySem.W.findCls K (.ref C) (clsMc K C) m with
  | some (.get _ (.ref p) _ _) => p
  | _ => 0
def cmB (K : PySem.W.Frag) (C : Addr) (m : Str) : Bool := match PySem.W.findCls K (.ref C) (clsMc K C) m with
  | some (.get (.builtin b) (.ref _) .none (.ref D)) => decide (b = "classmethod.__get__") && decide (D = C)
  | _ => false

/-- a static method that stands in the class -/
def smB (K : PySem.W.Frag) (C : Addr) (m : Str) : Bool := match PySem.W.findCls K (.ref C) (clsMc K C) m with
  | some (.get (.builtin b) (.ref _) .none (.ref D)) => decide (b = "staticmethod.__get__") && decide (D = C)
  | _ => false

inductive Fc where
  /-- isinstance's answer for the kind t and the class c -/
  | kit (t c : Nm) (b : Bool)
  /-- an exception class over ValueError with an __init__ of its own -/
  | exo (x : Str)
  /-- the same without one of its own: what a clause, a class in isinstance asks -/
  | exb (x : Str)
  /-- a class's instances: isinstance asks them rightly; != is object's -/
  | ins (x : Str)
  | ne (x : Str)
  | op (x m : Str)
  | exm (x y : Str) (b : Bool)
  | cread (x : Str)
  | cval (x f : Str) (v : He.Dv)
  | prop (x f : Str)
  | cmet (x m : Str)
  | smet (x m : Str)
  | first (x : Str) (t : Nm)
  /-- the class is none of a built-in one; a name of the module that holds a built-in function -/
  | nomro (x : Str) (n : String)
  | bfun (x : Str) (id : String)
  /-- what a binary operator nm asks of the built-in kind n beside an instance of x; lf: does n take it as a number -/
  | bin (x : Str) (nm n : String) (lf : Bool)
  | sel (x : Str)
  /-- no method of its own for nm in place -/
  | inp (x : Str) (nm : String)
  /-- the interpreter's dict of modules is among what is known -/
  | smod
  /-- no bound of its own for the figures of numbers -/
  | nodig
open PySem.W in
def binB (K : PySem.W.Frag) (C : Addr) (nm n : String) (lf : Bool) : Bool := (match findIn K (.type n) (PySem.dunder nm), findIn K (.type n) (dunderR nm) with
  | some fo, some ro => decide (((fo.isSome && !isSeqSlot fo) || (ro.isSome && !isSeqSlot ro)) = lf)
  | _, _ => false) && (decide (subIn K (.type n) (.ref C) = some false) && decide (mroIn K C (.type n) = some false))
open PySem.W in
def Fc.ok (K : PySem.W.Frag) : Fc → Bool
  | .kit t c b => decide (kitOne K (t.val K) (c.val K) = some b)
  | .exo x => oexB K (ga K x) && (He.eqO (findIn K (.ref (ga K x)) "__setattr__") (some (some (.builtin "object.__setattr__"))) &&
      (He.eqO (findIn K (.ref (ga K x)) "__init__") (some (some (.ref (ma K (ga K x) "__init__")))) && (decide (typeIn K (.ref (ma K (ga K x) "__init__")) = some (.type "function")) && keepIn K (.ref (ga K x)))))
  | .exb x => xfB K (ga K x) && (decide (typeIn K (.ref (ga K x)) = some (.type "type")) && (He.eqO (findIn K (.ref (ga K x)) "__class__") (some (some (.builtin "object.__class__"))) &&
      (decide (specialIn K (.builtin "object.__class__") "__get__" = some (some (.builtin "getset_descriptor.__get__"))) && (decide (takesIn K (.builtin "object.__class__") = some true) && decide (mroIn K (ga K x) (.type "object") = some true)))))
  | .ins x => He.eqO (findIn K (.ref (ga K x)) "__class__") (some (some (.builtin "object.__class__"))) &&
      (decide (specialIn K (.builtin "object.__class__") "__get__" = some (some (.builtin "getset_descriptor.__get__"))) && (decide (takesIn K (.builtin "object.__class__") = some true) && decide (mroIn K (ga K x) (.type "object") = some true)))
  | .ne x => He.eqO (findIn K (.ref (ga K x)) "__ne__") (some (some (.builtin "object.__ne__")))
  | .op x m => He.eqO (findIn K (.ref (ga K x)) m) (some (some (.ref (ma K (ga K x) m)))) && isFn K (.ref (ma K (ga K x) m))
  | .exm x y b => decide (exmOne K (.ref (ga K x)) (.ref (ga K y)) = some b)
  | .cread x => readsIn K (ga K x) (clsMc K (ga K x)) && decide (specialIn K (.ref (ga K x)) "__getattribute__" = some (some (.builtin "type.__getattribute__")))
  | .cval x f v => cvalB K (ga K x) f (v.v K)
  | .prop x f => He.eqO (findIn K (.ref (ga K x)) f) (some (some (.ref (propAt K (ga K x) f)))) && (decide (specialIn K (.ref (propAt K (ga K x) f)) "__get__" = some (some (.builtin "property.__get__"))) &&
      (decide (takesIn K (.ref (propAt K (ga K x) f)) = some true) && recB K (propAt K (ga K x) f) "property"))
  | .cmet x m => cmB K (ga K x) m && (recB K (cmAt K (ga K x) m) "classmethod" && fnIn K (recHead K (cmAt K (ga K x) m) "classmethod"))
  | .smet x m => smB K (ga K x) m && (recB K (cmAt K (ga K x) m) "staticmethod" && keepIn K (.ref (recHead K (cmAt K (ga K x) m) "staticmethod")))
  | .first x t => notFirst K (ga K x) (t.val K)
  | .nomro x n => decide (mroIn K (ga K x) (.type n) = some false)
  | .bfun x id => He.eqO (nsIn K mainGlobals x) (some (some (.builtin id)))
  | .bin x nm n lf => binB K (ga K x) nm n lf
  | .sel x => selfFirst K (ga K x)
  | .inp x nm => (clsIn K (ga K x)).any fun cd => cd.mro.all fun c => findIn K c (dunderI nm) == some none
  | .smod => (K.lookup sysModules).isSome
  | .nodig => He.eqO (nsIn K cStatics "sys.int_max_str_digits") (some none)
theorem ba {a b : Bool} (h : (a && b) = true) : a = true ∧ b = true := Bool.and_eq_true_iff.mp h
section
variable {K : PySem.W.Frag}
theorem kit_f {t c : Nm} {b : Bool} (h : (Fc.kit t c b).ok K = true) : PySem.W.kitOne K (t.val K) (c.val K) = some b := of_decide_eq_true h
structure BinT (K : PySem.W.Frag) (C : Addr) (nm n : String) (lf : Bool) : Prop where
  ex : ∃ fo ro, PySem.W.findIn K (.type n) (PySem.dunder nm) = some fo ∧ PySem.W.findIn K (.type n) (dunderR nm) = some ro ∧ ((fo.isSome && !isSeqSlot fo) || (ro.isSome && !isSeqSlot ro)) = lf
  sub : PySem.W.subIn K (.type n) (.ref C) = some false
  mro : PySem.W.mroIn K C (.type n) = some false
theorem bin_f {x : Str} {nm n : String} {lf : Bool} (h : (Fc.bin x nm n lf).ok K = true) : BinT K (ga K x) nm n lf := by
  obtain ⟨h1, h⟩ := ba h
  obtain ⟨h2, h3⟩ := ba h
  refine ⟨?_, of_decide_eq_true h2, of_decide_eq_true h3⟩
  split at h1
  · rename_i fo ro e1 e2
    exact ⟨fo, ro, e1, e2, of_decide_eq_true h1⟩
  · cases h1
def noInpB (K : PySem.W.Frag) (C : Addr) (nm : String) : Prop := ∃ cd, PySem.W.clsIn K C = some cd ∧ (cd.mro.all fun c => PySem.W.findIn K c (dunderI nm) == some none) = true
theorem inp_f {x : Str} {nm : String} (h : (Fc.inp x nm).ok K = true) : noInpB K (ga K x) nm := PySem.W.any_some h
theorem nodig_f (h : Fc.nodig.ok K = true) : PySem.W.nsIn K cStatics "sys.int_max_str_digits" = some none := He.eqO_ok h
theorem smod_f (h : Fc.smod.ok K = true) : (K.lookup sysModules).isSome = true := h
theorem sel_f {x : Str} (h : (Fc.sel x).ok K = true) : PySem.W.selfFirst K (ga K x) = true := h
/-- an exception class with an __init__ -/
structure ExoC (K : PySem.W.Frag) (C fI : Addr) : Prop where
  oex : OexC K C
  init : PySem.W.findIn K (.ref C) "__init__" = some (some (.ref fI))
  fn : PySem.W.typeIn K (.ref fI) = some (.type "function")
theorem exb_f {x : Str} (h : (Fc.exb x).ok K = true) : XfC K (ga K x) ∧ ExcC K (ga K x) ∧ PySem.W.typeIn K (.ref (ga K x)) = some (.type "type") := by
  obtain ⟨h1, h⟩ := ba h
  obtain ⟨h2, h⟩ := ba h
  obtain ⟨h3, h⟩ := ba h
  obtain ⟨h4, h⟩ := ba h
  obtain ⟨h5, h6⟩ := ba h
  have q := xfB_ok h1
  exact ⟨q, ⟨q.ga, q.gg, q.exC, q.hdC, He.eqO_ok h3, of_decide_eq_true h4, of_decide_eq_true h5, of_decide_eq_true h6⟩, of_decide_eq_true h2⟩
theorem exo_f {x : Str} (h : (Fc.exo x).ok K = true) (h' : (Fc.exb x).ok K = true) : ExoC K (ga K x) (ma K (ga K x) "__init__") := by
  obtain ⟨h1, h⟩ := ba h
  obtain ⟨h2, h⟩ := ba h
  obtain ⟨h3, h⟩ := ba h
  obtain ⟨h4, h5⟩ := ba h
  obtain ⟨a, b, c⟩ := exb_f h'
  exact ⟨⟨oexB_ok h1, He.eqO_ok h2, a.exC, c, h5⟩, He.eqO_ok h3, of_decide_eq_true h4⟩
theorem op_f {x m : Str} (h : (Fc.op x m).ok K = true) : PySem.W.findIn K (.ref (ga K x)) m = some (some (.ref (ma K (ga K x) m))) ∧ PySem.W.isFn K (.ref (ma K (ga K x) m)) = true := by
  obtain ⟨h1, h2⟩ := ba h
  exact ⟨He.eqO_ok h1, h2⟩
theorem ne_f {x : Str} (h : (Fc.ne x).ok K = true) : PySem.W.findIn K (.ref (ga K x)) "__ne__" = some (some (.builtin "object.__ne__")) := He.eqO_ok h
theorem exm_f {x y : Str} {b : Bool} (h : (Fc.exm x y b).ok K = true) : PySem.W.exmOne K (.ref (ga K x)) (.ref (ga K y)) = some b := of_decide_eq_true h
theorem cread_f {x : Str} (h : (Fc.cread x).ok K = true) : ClX.CRead K (ga K x) (clsMc K (ga K x)) := by
  obtain ⟨h1, h2⟩ := ba h
  exact ⟨h1, of_decide_eq_true h2⟩
theorem cval_f {x f : Str} {v : He.Dv} (h : (Fc.cval x f v).ok K = true) : ∃ u, ClX.CVal K (ga K x) (clsMc K (ga K x)) f (v.v K) u := by
  have h' : cvalB K (ga K x) f (v.v K) = true := h
  unfold cvalB at h'
  split at h'
  · rename_i u e
    exact ⟨u, e, He.relB_ok h'⟩
  · cases h'
theorem prop_f {x f : Str} (h : (Fc.prop x f).ok K = true) : PropOf K (ga K x) f (propAt K (ga K x) f) (recHead K (propAt K (ga K x) f) "property") := by
  obtain ⟨h1, h⟩ := ba h
  obtain ⟨h2, h⟩ := ba h
  obtain ⟨h3, h4⟩ := ba h
  exact ⟨He.eqO_ok h1, of_decide_eq_true h2, of_decide_eq_true h3, recB_ok h4⟩
theorem nomro_f {x : Str} {n : String} (h : (Fc.nomro x n).ok K = true) : PySem.W.mroIn K (ga K x) (.type n) = some false := of_decide_eq_true h
theorem first_f {x : Str} {t : Nm} (h : (Fc.first x t).ok K = true) : PySem.W.notFirst K (ga K x) (t.val K) = true := h
/-- what isinstance asks of an instance -/
structure InsC (K : PySem.W.Frag) (C : Addr) : Prop where
  cl : Cls K C
  ha : PySem.W.findIn K (.ref C) "__class__" = some (some (.builtin "object.__class__"))
  hn : PySem.W.specialIn K (.builtin "object.__class__") "__get__" = some (some (.builtin "getset_descriptor.__get__"))
  ht : PySem.W.takesIn K (.builtin "object.__class__") = some true
  hm : PySem.W.mroIn K C (.type "object") = some true
theorem ins_f {x : Str} (h : (Fc.ins x).ok K = true) (c : Cls K (ga K x)) : InsC K (ga K x) := by
  obtain ⟨h1, h⟩ := ba h
  obtain ⟨h2, h⟩ := ba h
  obtain ⟨h3, h4⟩ := ba h
  exact ⟨c, He.eqO_ok h1, of_decide_eq_true h2, of_decide_eq_true h3, of_decide_eq_true h4⟩
end

/-! ### defs by their places -/
inductive Pl where
  | fn (x : Str)
  | me (x m : Str)
  | pr (x m : Str)
  | cm (x m : Str)
  | sm (x m : Str)
def Pl.adr (K : PySem.W.Frag) : Pl → Addr
  | .fn x => ga K x
  | .me x m => ma K (ga K x) m
  | .pr x m => recHead K (propAt K (ga K x) m) "property"
  | .cm x m => recHead K (cmAt K (ga K x) m) "classmethod"
  | .sm x m => recHead K (cmAt K (ga K x) m) "staticmethod"
structure Df where
  at_ : Pl
  name : Str
  qual : Str
  st : Stmt
  dfl : List He.Dv := []
/-- the function that stands at a -/
def funAt? (K : PySem.W.Frag) (a : Addr) : Option FuncData := match K.lookup a with
  | some o => (match o.data with
    | .func fd => some fd
    | _ => none)
  | none => none
def wordsOf (fd : FuncData) : Str × Str × Arguments × FuncBody × Scope × Addr × List (Str × Addr) × Addr :=
  (fd.name, fd.qualname, fd.params, fd.body, fd.scope, fd.globals, fd.closure, fd.builtins)
def fnWa (K : PySem.W.Frag) (a : Addr) : He.FnW := (funAt? K a).map wordsOf
def Df.val (d : Df) : He.FnW := some (d.name, d.qual, defArgs d.st, .stmts (defBody d.st), defScope d.st, mainGlobals, [], builtinsNs)
def Df.dvs (K : PySem.W.Frag) (d : Df) : List V := d.dfl.map (He.Dv.v K)
def Df.ok (K : PySem.W.Frag) (d : Df) : Bool := PySem.W.keepIn K (.ref (d.at_.adr K)) && ((funAt? K (d.at_.adr K)).any fun fd =>
  PySem.W.codeIn K fd.code d.qual && (He.dflB K fd.defaults (d.dvs K) && He.kwdB K fd.kwdefaults []))
/-- a def's function data -/
def fdAt (K : PySem.W.Frag) (f : Addr) : FuncData := (funAt? K f).getD default
theorem funAt_some {K : PySem.W.Frag} {a : Addr} {fd : FuncData} (e : funAt? K a = some fd) : ∃ c dd sl, K.lookup a = some ⟨c, dd, .func fd, sl⟩ := by
  revert e
  unfold funAt?
  match K.lookup a with
  | none => exact nofun
  | some ⟨c, dd, da, sl⟩ =>
    cases da with
    | func fd' =>
      intro e
      obtain rfl : fd' = fd := Option.some.inj e
      exact ⟨c, dd, sl, rfl⟩
    | _ => exact nofun
theorem Df.funD {K : PySem.W.Frag} {d : Df} (words : fnWa K (d.at_.adr K) = d.val) (c : d.ok K = true) :
    FunD K d.name d.qual (defArgs d.st) (defBody d.st) (defScope d.st) (d.dvs K) [] (d.at_.adr K) (fdAt K (d.at_.adr K)) := by
  rcases Option.map_eq_some_iff.mp words with ⟨fd, here, words⟩
  have rest := (ba c).2
  unfold fdAt
  rw [here] at rest ⊢
  rcases ba rest with ⟨code, rest⟩
  rcases funAt_some here with ⟨oc, od, sl, look⟩
  refine ⟨⟨oc, od, fd.defaults, fd.kwdefaults, fd.doc, fd.pyModule, fd.annotations, fd.code, fd.closureTuple, sl, ?_, look, code, He.dflB_ok (ba rest).1, He.kwdB_ok (ba rest).2⟩, (ba c).1⟩
  cases fd
  cases words
  rfl
/-- a def's code object and its table -/
def codeAt (K : PySem.W.Frag) (f : Addr) : Addr := match (fdAt K f).code with
  | .ref c => c
  | _ => 0
def tabAt (K : PySem.W.Frag) (f : Addr) : Addr × Addr := (codeAt K f, He.tabOf K (codeAt K f))

/-! ### the Hook: facts, defs, tables of code objects that are empty and not in K -/
structure Sys where
  fa : List He.Fa
  fc : List Fc
  fn : List Df
  tf : List Pl
def asC (g : Addr → Option Obj) (n : Nat) : List Addr := He.asD g n ++ [cStatics, sysModules]
def tabsC (g : Addr → Option Obj) (tf : List Pl) (K : PySem.W.Frag) : Bool := tf.all fun p => PySem.W.codeHdIn K (tabAt K (p.adr K)).1 (tabAt K (p.adr K)).2 && (match g (tabAt K (p.adr K)).2 with
  | some o => He.emptyTab o
  | none => false)
/-- no table twice -/
def apartB : List Addr → Bool
  | [] => true
  | a :: l => (l.all fun b => decide (a ≠ b)) && apartB l
theorem apart_inj {l : List (Addr × Str)} (h : apartB (l.map (·.1)) = true) : ∀ p ∈ l, ∀ q ∈ l, p.1 = q.1 → p.2 = q.2 := by
  induction l with
  | nil => intro p hp; cases hp
  | cons x l ih =>
    have h' : ((l.map (·.1)).all (fun b => decide (x.1 ≠ b)) && apartB (l.map (·.1))) = true := h
    obtain ⟨h1, h2⟩ := Bool.and_eq_true_iff.mp h'
    have far : ∀ q ∈ l, x.1 ≠ q.1 := fun q hq => of_decide_eq_true (List.all_eq_true.mp h1 q.1 (List.mem_map.mpr ⟨q, hq, rfl⟩))
    intro p hp q hq e
    rcases List.mem_cons.mp hp with z1 | z1
    · rcases List.mem_cons.mp hq with z2 | z2
      · rw [z1, z2]
      · rw [z1] at e
        exact absurd e (far q z2)
    · rcases List.mem_cons.mp hq with z2 | z2
      · rw [z2] at e
        exact absurd e.symm (far p z1)
      · exact ih h2 p z1 q z2 e
def obsK (y : Sys) (K : PySem.W.Frag) : Bool := (y.fa.all fun f => f.ok K) && ((y.fc.all fun f => f.ok K) && ((y.fn.all fun d => d.ok K) && apartB (y.tf.map fun p => (tabAt K (p.adr K)).2)))
abbrev AlC : Type := Bool × List He.FnW
def obsC (n : Nat) (y : Sys) (g : Addr → Option Obj) : AlC :=
  (obsK y (He.frT g (asC g n)) && tabsC g y.tf (He.frT g (asC g n)), y.fn.map fun d => fnWa (He.frT g (asC g n)) (d.at_.adr (He.frT g (asC g n))))
def valC (y : Sys) : AlC := (true, y.fn.map Df.val)
structure SaysC (y : Sys) (h : Heap) (K : PySem.W.Frag) : Prop where
  k : obsK y K = true
  d : (y.fn.map fun d => fnWa K (d.at_.adr K)) = y.fn.map Df.val
  hd : ∀ p ∈ y.tf, PySem.W.codeHdIn K (tabAt K (p.adr K)).1 (tabAt K (p.adr K)).2 = true
  out : ∀ p ∈ y.tf, K.lookup (tabAt K (p.adr K)).2 = none
  empty : ∀ p ∈ y.tf, h.get? (tabAt K (p.adr K)).2 = some { cls := .none, data := .fields #[] }
theorem saysC_of {n : Nat} {y : Sys} {h : Heap} (e : obsC n y h.get? = valC y) : SaysC y h (He.frT h.get? (asC h.get? n)) := by
  have e1 : (obsK y (He.frT h.get? (asC h.get? n)) && tabsC h.get? y.tf (He.frT h.get? (asC h.get? n))) = true := congrArg (fun z : AlC => z.1) e
  have e2 : (y.fn.map fun d => fnWa (He.frT h.get? (asC h.get? n)) (d.at_.adr (He.frT h.get? (asC h.get? n)))) = y.fn.map Df.val := congrArg (fun z : AlC => z.2) e
  obtain ⟨h1, h2⟩ := ba e1
  have key : ∀ p ∈ y.tf, PySem.W.codeHdIn (He.frT h.get? (asC h.get? n)) (tabAt (He.frT h.get? (asC h.get? n)) (p.adr (He.frT h.get? (asC h.get? n)))).1
      (tabAt (He.frT h.get? (asC h.get? n)) (p.adr (He.frT h.get? (asC h.get? n)))).2 = true ∧
      ∃ o, h.get? (tabAt (He.frT h.get? (asC h.get? n)) (p.adr (He.frT h.get? (asC h.get? n)))).2 = some o ∧ He.emptyTab o = true := fun p hp => by
    obtain ⟨h3, h4⟩ := ba (List.all_eq_true.mp h2 p hp)
    refine ⟨h3, ?_⟩
    split at h4
    · rename_i o q
      exact ⟨o, q, h4⟩
    · cases h4
  refine ⟨h1, e2, fun p hp => (key p hp).1, fun p hp => ?_, fun p hp => ?_⟩
  · obtain ⟨_, o, q, z⟩ := key p hp
    exact He.frT_none q z
  · obtain ⟨_, o, q, z⟩ := key p hp
    rw [q, He.emptyTab_eq z]
def hookC (n : Nat) (y : Sys) : PySem.W.Hook where
  α := AlC
  obs := fun s => obsC n y s.heap.get?
  val := fun _ => valC y
  says := fun _ h => ∃ K : PySem.W.Frag, K.In h ∧ SaysC y h K
  of := fun _ _ e => ⟨_, He.frT_in, saysC_of e⟩
  keeps := fun _ _ _ ⟨K, hK, c⟩ k => ⟨K, PySem.W.Frag.In.keeps hK k, ⟨c.k, c.d, c.hd, c.out, fun p hp => k _ _ (c.empty p hp)⟩⟩
theorem obsC_eq {n : Nat} {y : Sys} {g : Addr → Option Obj} {s : Shared} (h : ∀ a, g a = s.heap.get? a) : obsC n y g = (hookC n y).obs s := by
  have e : g = s.heap.get? := funext h
  rw [e] <;> rfl
/-- what a proof of a def leans on -/
structure HD (y : Sys) (K : PySem.W.Frag) (mg : Str → Option Value) : Prop where
  gl : ∀ (x : Str) (v : Option Value), PySem.W.nsIn K mainGlobals x = some v → mg x = v
  k : obsK y K = true
  d : (y.fn.map fun d => fnWa K (d.at_.adr K)) = y.fn.map Df.val
section
variable {y : Sys} {K : PySem.W.Frag} {mg : Str → Option Value}
theorem HD.of {h : Heap} (X : K.In h) (G : h.Ns mainGlobals mg) (c : SaysC y h K) : HD y K mg := ⟨fun x v e => by
  cases v with
  | none => exact PySem.W.mg_none_of X G e
  | some u => exact PySem.W.mg_of X G e, c.k, c.d⟩
theorem HD.fact (S : HD y K mg) (i : Nat) {f : He.Fa} (h : y.fa[i]? = some f := by rfl) : f.ok K = true := List.all_eq_true.mp (ba S.k).1 f (List.mem_of_getElem? h)
theorem HD.fcc (S : HD y K mg) (i : Nat) {f : Fc} (h : y.fc[i]? = some f := by rfl) : f.ok K = true := List.all_eq_true.mp (ba (ba S.k).2).1 f (List.mem_of_getElem? h)
theorem HD.glo (S : HD y K mg) {x : Str} (h : (He.Fa.glo x).ok K = true) : mg x = some (.ref (ga K x)) := S.gl _ _ (He.eqO_ok h)
theorem HD.bfun (S : HD y K mg) {x : Str} {id : String} (h : (Fc.bfun x id).ok K = true) : mg x = some (.builtin id) := S.gl _ _ (He.eqO_ok h)
theorem HD.free (S : HD y K mg) {x : Str} (h : (He.Fa.free x).ok K = true) : mg x = none := S.gl _ _ (He.eqO_ok h)
theorem HD.def_ (S : HD y K mg) (i : Nat) {d : Df} (h : y.fn[i]? = some d := by rfl) :
    FunD K d.name d.qual (defArgs d.st) (defBody d.st) (defScope d.st) (d.dvs K) [] (d.at_.adr K) (fdAt K (d.at_.adr K)) := by
  have e2 : (y.fn.map fun d => fnWa K (d.at_.adr K))[i]? = (y.fn.map Df.val)[i]? := by rw [S.d]
  rw [List.getElem?_map, List.getElem?_map, h] at e2
  exact Df.funD (Option.some.inj e2) (List.all_eq_true.mp (ba (ba (ba S.k).2).2).1 d (List.mem_of_getElem? h))
theorem HD.apart (S : HD y K mg) : apartB (y.tf.map fun p => (tabAt K (p.adr K)).2) = true := (ba (ba (ba S.k).2).2).2
end

/-! ### callees in short: what a call of the name x, of a method, of a class asks -/
/-- f(..) by the module's name x -/
def Cl (P : Program) (w : World) (K : PySem.W.Frag) (mg : Str → Option Value) (base : Heap) (CX : CXT) (k : Nat) (x : Str) (sp : Sp) : Prop :=
  ∃ f fd ps, FnOk P w K mg base CX k f fd ps sp ∧ mg x = some (.ref f) ∧ PySem.W.keepIn K (.ref f) = true ∧ Binds K fd ps []
def ClG (P : Program) (w : World) (K : PySem.W.Frag) (mg : Str → Option Value) (base : Heap) (CX : CXT) (k : Nat) (x : Str) (sp : Sp) : Prop :=
  ∃ f fd ps, FnOkG P w K mg base CX k f fd ps sp ∧ mg x = some (.ref f) ∧ PySem.W.keepIn K (.ref f) = true ∧ Binds K fd ps []
/-- o.m(..), o an instance of C -/
def Me (P : Program) (w : World) (K : PySem.W.Frag) (mg : Str → Option Value) (base : Heap) (CX : CXT) (k : Nat) (C : Addr) (m : Str) (sp : Sp) : Prop :=
  ∃ f fd ps, FnOk P w K mg base CX k f fd ps sp ∧ Cls K C ∧ Meth K C m f ∧ Binds K fd ps []
/-- C(..) -/
def Mke (P : Program) (w : World) (K : PySem.W.Frag) (mg : Str → Option Value) (base : Heap) (CX : CXT) (k : Nat) (x : Str) (sp : Sp) : Prop :=
  ∃ f fd ps, FnOk P w K mg base CX k f fd ps sp ∧ Mk K (ga K x) f ∧ mg x = some (.ref (ga K x)) ∧ Binds K fd ps []
section
variable {X : Cx} {CX : CXT} {j k : Nat} {x m : Str} {C : Addr} {sp : Sp} {E : XK} {p pos apos : Pos} {e o : Expr} {es : List Expr} {t : TA} {ta : TE}
theorem pe_f (c : Cl X.prog X.w X.K X.mg X.base CX k x sp) (hr : Room j X.A) (hk : k ≤ j) (hx : Passes CX X E) (ha : PA X (e :: es) t) (hg : Gl X x := by rfl)
    (hdb : (x == ("__debug__" : Str)) = false := by decide) (he : starEach (e :: es) X.env = (false, eval e X.env) :: starEach es X.env := by rfl)
    (hpl : (backTo pos (starEach es X.env)).any (·.1) = false := by rfl) : PE X (.Call (.Name x p) (e :: es) [] pos) (tCall sp [] E t) := by
  obtain ⟨f, fd, ps, F, hm, kp, b⟩ := c
  exact pe_call F (hr.mono hk) hg hm kp b .nil hx ha hdb he hpl
theorem pe_fG (c : ClG X.prog X.w X.K X.mg X.base CX k x sp) (hr : Room j X.A) (hk : k ≤ j) (hgd : X.A.guards = some []) (hx : Passes CX X E) (ha : PA X (e :: es) t) (hg : Gl X x := by rfl)
    (hdb : (x == ("__debug__" : Str)) = false := by decide) (he : starEach (e :: es) X.env = (false, eval e X.env) :: starEach es X.env := by rfl)
    (hpl : (backTo pos (starEach es X.env)).any (·.1) = false := by rfl) : PE X (.Call (.Name x p) (e :: es) [] pos) (tCall sp [] E t) := by
  obtain ⟨f, fd, ps, F, hm, kp, b⟩ := c
  exact pe_callG F (hr.mono hk) hgd hg hm kp b .nil hx ha hdb he hpl
theorem pe_me {pl : Sem Bool} (c : Me X.prog X.w X.K X.mg X.base CX k C m sp) (hr : Room j X.A) (hk : k ≤ j) (hx : Passes CX X E) (ho : PE X o ta) (ha : PA X (e :: es) t)
    (hst : starEach (e :: es) X.env = (false, eval e X.env) :: starEach es X.env := by rfl) (hpl : (backTo pos (starEach es X.env)).any (·.1) = false := by rfl)
    (ht : eval (.Call (.Attribute o m apos) (e :: es) [] pos) X.env = (do
      let ov ← eval o X.env
      standAt apos.atName
      let (f, first) ← holding [ov] (getMethod ov m pl)
      callWith pos f first (backTo pos (starEach (e :: es) X.env)) (backToKw pos (keywordEach [] X.env))) := by rfl) :
    PE X (.Call (.Attribute o m apos) (e :: es) [] pos) (tMeth C m sp [] E ta t) := by
  obtain ⟨f, fd, ps, F, cl, hm, b⟩ := c
  exact pe_meth ho cl hm F (hr.mono hk) b .nil hx ha hst hpl ht
theorem pe_me0 {pl : Sem Bool} (c : Me X.prog X.w X.K X.mg X.base CX k C m sp) (hr : Room j X.A) (hk : k ≤ j) (hx : Passes CX X E) (ho : PE X o ta)
    (ht : eval (.Call (.Attribute o m apos) [] [] pos) X.env = (do
      let ov ← eval o X.env
      standAt apos.atName
      let (f, first) ← holding [ov] (getMethod ov m pl)
      callWith pos f first (backTo pos (starEach [] X.env)) (backToKw pos (keywordEach [] X.env))) := by rfl) :
    PE X (.Call (.Attribute o m apos) [] [] pos) (tMeth C m sp [] E ta tNil) := by
  obtain ⟨f, fd, ps, F, cl, hm, b⟩ := c
  exact pe_meth0 ho cl hm F (hr.mono hk) b .nil hx ht
theorem pe_mke (c : Mke X.prog X.w X.K X.mg X.base CX k x sp) (hr : Room j X.A) (hk : k + 1 ≤ j) (hx : Passes CX X E) (ha : PA X (e :: es) t) (hg : Gl X x := by rfl)
    (hdb : (x == ("__debug__" : Str)) = false := by decide) (he : starEach (e :: es) X.env = (false, eval e X.env) :: starEach es X.env := by rfl)
    (hpl : (backTo pos (starEach es X.env)).any (·.1) = false := by rfl) : PE X (.Call (.Name x p) (e :: es) [] pos) (tMake (ga X.K x) sp [] E t) := by
  obtain ⟨f, fd, ps, F, M, hm, b⟩ := c
  exact pe_make M F (hr.mono hk) hg hm b .nil hx ha hdb he hpl
end
end CT
namespace CT
open PySem PySem.Spec PyProof.Rows L2
open He (ga ma fAd)

/-! ### readings, step by step -/
section
variable {σ : St} {H : Hp} {Q : VK} {v : V} {D : Ends} {K : PySem.W.Frag}
theorem go_var {i : Nat} (h : σ[i]? = some (some v)) (k : Q v H) : tVar i σ H Q := ⟨v, h, k⟩
theorem go_c (k : Q v H) : tC v σ H Q := k
theorem go_op {r : R2} {ta tb : TE} (k : ta σ H fun x H1 => tb σ H1 fun y H2 => r x y H2 Q) : tOp r ta tb σ H Q := k
theorem go_un {r : V → Hp → VK → Prop} {ta : TE} (k : ta σ H fun x H1 => r x H1 Q) : tUn r ta σ H Q := k
theorem go_u {g : Int → V} {i : Int} (k : Q (g i) H) : rU g (.int i) H Q := ⟨i, rfl, k⟩
theorem go_i0 {g : Int → Int → V} {i j : Int} (k : Q (g i j) H) : rI0 g (.int i) (.int j) H Q := ⟨i, j, rfl, rfl, k⟩
theorem go_i {C : Int → Int → Prop} {g : Int → Int → V} {i j : Int} (c : C i j) (k : Q (g i j) H) : rI C g (.int i) (.int j) H Q := ⟨i, j, rfl, rfl, c, k⟩
theorem go_pow {i j r : Int} (c : CPow i j) (e : i ^ j.toNat = r) (k : Q (.int r) H) : rI CPow (fun i j => .int (i ^ j.toNat)) (.int i) (.int j) H Q := by
  subst e
  exact ⟨i, j, rfl, rfl, c, k⟩
theorem go_test {t : TE} {R : Bool → Hp → Prop} (k : t σ H fun x H' => ∃ k, x = .bl k ∧ R k H') : tTest t σ H R := k
theorem go_B {t : TE} {R : Bool → Hp → Prop} (k : t σ H fun x H' => ∃ k, x = .bl k ∧ R k H') : tB t σ H R := k
theorem go_k {b : Bool} {R : Bool → Prop} (k : R b) : ∃ k, V.bl b = .bl k ∧ R k := ⟨b, rfl, k⟩
theorem go_and {t u : TT} {R : Bool → Hp → Prop} (k : t σ H fun c H1 => if c = true then u σ H1 R else R false H1) : tAnd t u σ H R := k
theorem go_or {t u : TT} {R : Bool → Hp → Prop} (k : t σ H fun c H1 => if c = true then R true H1 else u σ H1 R) : tOr t u σ H R := k
theorem go_not {t : TT} {R : Bool → Hp → Prop} (k : t σ H fun c H1 => R (!c) H1) : tNot t σ H R := k
theorem go_andV {ta tb : TE} (k : ta σ H fun x H1 => ∃ c, x = .bl c ∧ if c = true then tb σ H1 Q else Q (.bl false) H1) : tAndV ta tb σ H Q := k
theorem go_orV {ta tb : TE} (k : ta σ H fun x H1 => ∃ c, x = .bl c ∧ if c = true then Q (.bl true) H1 else tb σ H1 Q) : tOrV ta tb σ H Q := k
theorem go_notV {ta : TE} (k : ta σ H fun x H1 => ∃ c, x = .bl c ∧ Q (.bl (!c)) H1) : tNotV ta σ H Q := k
theorem go_if {t : TT} {ta tb : TE} (k : t σ H fun c H1 => if c = true then ta σ H1 Q else tb σ H1 Q) : L2.tIf t ta tb σ H Q := k
theorem go_ifS {c : TT} {t u : TS} (k : c σ H fun b H1 => if b = true then t D σ H1 else u D σ H1) : tIfS c t u D σ H := k
theorem go_seq {t u : TS} (k : t { D with nx := u D } σ H) : tSeq t u D σ H := k
theorem go_next (k : D.nx σ H) : tNext D σ H := k
theorem go_asg {te : TE} {g : TG} (k : te σ H fun x H1 => g x σ H1 D.nx) : tAsg te g D σ H := k
theorem go_name {i : Nat} {σ' : St} {R : St → Hp → Prop} (h : σ.set i (some v) = σ') (k : R σ' H) : gName i v σ H R := by
  subst h
  exact k
theorem go_ret {te : TE} (k : te σ H D.rt) : tRet te D σ H := k
theorem go_retN (k : D.rt .non H) : tRetN D σ H := k
theorem go_drop {te : TE} (k : te σ H fun _ H1 => D.nx σ H1) : tDrop te D σ H := k
theorem go_call {sp : Sp} {E : XK} {t : TA} (k : t σ H fun vs H1 => sp (vs ++ []) H1 Q E) : tCall sp [] E t σ H Q := k
theorem go_cb {r : List V → Hp → VK → Prop} {t : TA} (k : t σ H fun vs H1 => r vs H1 Q) : tCB r t σ H Q := k
theorem go_nil {R : List V → Hp → Prop} (k : R [] H) : tNil σ H R := k
theorem go_cons {ta : TE} {tr : TA} {R : List V → Hp → Prop} (k : ta σ H fun x H1 => tr σ H1 fun xs H2 => R (x :: xs) H2) : tCons ta tr σ H R := k
def rNewL (xs : List V) (H : Hp) (Q : VK) : Prop := xs.length ≤ sizeLine ∧ ∀ p, H p = none → Q (.ref p) (upd H p (.lst xs))
def rNewT (xs : List V) (H : Hp) (Q : VK) : Prop := xs.length ≤ sizeLine ∧ ∀ p, H p = none → Q (.ref p) (upd H p (.tup xs))
theorem go_lst {t : TA} (k : t σ H fun xs H1 => rNewL xs H1 Q) : tLst t σ H Q := k
theorem go_tup {t : TA} (k : t σ H fun xs H1 => rNewT xs H1 Q) : tTup t σ H Q := k
theorem newL_raw {xs : List V} (h : xs.length ≤ 1000) (k : ∀ p, H p = none → Q (.ref p) (upd H p (.lst xs))) : rNewL xs H Q := ⟨Nat.le_of_lt (small1000 h), k⟩
theorem newT_raw {xs : List V} (h : xs.length ≤ 1000) (k : ∀ p, H p = none → Q (.ref p) (upd H p (.tup xs))) : rNewT xs H Q := ⟨Nat.le_of_lt (small1000 h), k⟩
theorem go_sz {n : Nat} {R : Addr → Prop} (h : n ≤ 1000) (k : ∀ p, H p = none → R p) : n ≤ sizeLine ∧ ∀ p, H p = none → R p := ⟨Nat.le_of_lt (small1000 h), k⟩
def rFld (K : PySem.W.Frag) (f : Str) (x : V) (H : Hp) (Q : VK) : Prop := ∃ a C dx fs v, x = .ref a ∧ H a = some (.ins C dx fs) ∧ Cls K C ∧ NoAttr K C f ∧ fs.lookup f = some v ∧ Q v H
theorem go_fld {ta : TE} {f : Str} (k : ta σ H fun x H1 => rFld K f x H1 Q) : tFld K ta f σ H Q := k
def par2 (i j : Nat) (σ : St) (vs : List V) (R : St → Prop) : Prop := ∃ v w, vs = [v, w] ∧ R ((σ.set i (some v)).set j (some w))
theorem go_par {i j : Nat} {ta : TA} (k : ta σ H fun vs H1 => par2 i j σ vs fun σ' => D.nx σ' H1) : tPar i j ta D σ H := k
theorem go_par2 {i j : Nat} {u w : V} {σ' : St} {R : St → Prop} (h : (σ.set i (some u)).set j (some w) = σ') (k : R σ') : par2 i j σ [u, w] R := by
  subst h
  exact ⟨u, w, rfl, k⟩
theorem go_start {σ' : St} {t : TS} (e : σ = σ') (h : t D σ' H) : t D σ H := by
  subst e
  exact h
theorem cxOf_K {CX : CXT} {P : Program} {w : World} {mg : Str → Option Value} {base : Heap} {N : List Str} {qual : Str} {scope : Scope} {f : Addr} {cd : Value} {A : Around} {outer : List Env} {s : Shared} {E : XK} :
    (cxOf CX P w K mg base N qual scope f cd A outer s H E).K = K := rfl
theorem go_slL {te : TE} {tl th : TO} {p : Addr} {xs : List V} (k : te σ H fun x H1 => tl σ H1 fun l H2 => th σ H2 fun u H3 => rSlL K x l u H3 Q) : tSl (rSlL K) te tl th σ H Q := k
theorem go_part {t : TE} {R : Option Int → Hp → Prop} (k : t σ H fun x H1 => ∃ i, x = .int i ∧ R (some i) H1) : tPart t σ H R := k
theorem go_i1 {i : Int} {R : Int → Prop} (k : R i) : ∃ j, V.int i = .int j ∧ R j := ⟨i, rfl, k⟩
theorem go_nopart {R : Option Int → Hp → Prop} (k : R none H) : tNoPart σ H R := k
theorem go_sl {r : V → Option Int → Option Int → Hp → VK → Prop} {te : TE} {tl th : TO} (k : te σ H fun x H1 => tl σ H1 fun l H2 => th σ H2 fun u H3 => r x l u H3 Q) : tSl r te tl th σ H Q := k
theorem go_rsl {a : Addr} {lo hi : Option Int} {xs : List V} (h : SqL K H a xs) (k : ∀ p, H p = none → Q (.ref p) (upd H p (.lst (cutV xs lo hi)))) : rSlL K (.ref a) lo hi H Q := ⟨a, xs, rfl, h, k⟩
theorem go_isi {x c : V} {u t : Value} {b : Bool} (h : ClsV c u) (ty : TyX K H x t) (e : PySem.W.kitOne K t u = some b) (k : Q (.bl b) H) : rIsi K [x, c] H Q := ⟨x, c, t, u, b, rfl, h, ty, e, k⟩
theorem bl_of {R : V → Prop} {x y : Bool} (e : x = y) (k : R (.bl y)) : R (.bl x) := e ▸ k
theorem int_of {R : V → Prop} {x y : Int} (e : x = y) (k : R (.int y)) : R (.int x) := e ▸ k
theorem go_fldx {a C dx : Addr} {fs : List (Str × V)} {f : Str} (h : H a = some (.ins C dx fs)) (c : Cls K C) (n : NoAttr K C f) (l : fs.lookup f = some v) (k : Q v H) : rFld K f (.ref a) H Q := ⟨a, C, dx, fs, v, rfl, h, c, n, l, k⟩
def rLstOf (K : PySem.W.Frag) : List V → Hp → VK → Prop := fun xs H Q => ∃ p ys, xs = [.ref p] ∧ (SqL K H p ys ∨ SqT K H p ys) ∧ ∀ l, H l = none → Q (.ref l) (upd H l (.lst ys))
theorem go_cbLst {t : TA} (k : t σ H fun vs H1 => rLstOf K vs H1 Q) : tCB (fun xs H Q => ∃ p ys, xs = [.ref p] ∧ (SqL K H p ys ∨ SqT K H p ys) ∧ ∀ l, H l = none → Q (.ref l) (upd H l (.lst ys))) t σ H Q := k
theorem go_lstof {a : Addr} {ys : List V} (h : SqL K H a ys ∨ SqT K H a ys) (k : ∀ l, H l = none → Q (.ref l) (upd H l (.lst ys))) : rLstOf K [.ref a] H Q := ⟨a, ys, rfl, h, k⟩
def rLen (K : PySem.W.Frag) : List V → Hp → VK → Prop := fun xs H Q => ∃ p ys, xs = [.ref p] ∧ (SqL K H p ys ∨ SqT K H p ys) ∧ Q (.int ys.length) H
theorem go_cbLen {t : TA} (k : t σ H fun vs H1 => rLen K vs H1 Q) : tCB (fun xs H Q => ∃ p ys, xs = [.ref p] ∧ (SqL K H p ys ∨ SqT K H p ys) ∧ Q (.int ys.length) H) t σ H Q := k
theorem go_len {a : Addr} {ys : List V} (h : SqL K H a ys ∨ SqT K H a ys) (k : Q (.int ys.length) H) : rLen K [.ref a] H Q := ⟨a, ys, rfl, h, k⟩
def rIntOf : List V → Hp → VK → Prop := fun xs H Q => (∃ i, xs = [.int i] ∧ Q (.int i) H) ∨ ∃ k, xs = [.bl k] ∧ Q (.int (if k = true then 1 else 0)) H
theorem go_cbInt {t : TA} (k : t σ H fun vs H1 => rIntOf vs H1 Q) : tCB (fun xs H Q => (∃ i, xs = [.int i] ∧ Q (.int i) H) ∨ ∃ k, xs = [.bl k] ∧ Q (.int (if k = true then 1 else 0)) H) t σ H Q := k
theorem go_int {i : Int} (k : Q (.int i) H) : rIntOf [.int i] H Q := .inl ⟨i, rfl, k⟩
theorem go_intb {b : Bool} (k : Q (.int (if b = true then 1 else 0)) H) : rIntOf [.bl b] H Q := .inr ⟨b, rfl, k⟩
def rBoolOf : List V → Hp → VK → Prop := fun xs H Q => (∃ i, xs = [.int i] ∧ Q (.bl (i != 0)) H) ∨ ∃ k, xs = [.bl k] ∧ Q (.bl k) H
theorem go_cbBool {t : TA} (k : t σ H fun vs H1 => rBoolOf vs H1 Q) : tCB (fun xs H Q => (∃ i, xs = [.int i] ∧ Q (.bl (i != 0)) H) ∨ ∃ k, xs = [.bl k] ∧ Q (.bl k) H) t σ H Q := k
theorem go_booli {i : Int} (k : Q (.bl (i != 0)) H) : rBoolOf [.int i] H Q := .inl ⟨i, rfl, k⟩
theorem go_boolb {b : Bool} (k : Q (.bl b) H) : rBoolOf [.bl b] H Q := .inr ⟨b, rfl, k⟩
def rAbs : List V → Hp → VK → Prop := fun xs H Q => ∃ i, xs = [.int i] ∧ Q (.int (if i < 0 then -i else i)) H
theorem go_cbAbs {t : TA} (k : t σ H fun vs H1 => rAbs vs H1 Q) : tCB (fun xs H Q => ∃ i, xs = [.int i] ∧ Q (.int (if i < 0 then -i else i)) H) t σ H Q := k
theorem go_abs {i : Int} (k : Q (.int (if i < 0 then -i else i)) H) : rAbs [.int i] H Q := ⟨i, rfl, k⟩
def rMax2 : List V → Hp → VK → Prop := fun xs H Q => ∃ i j, xs = [.int i, .int j] ∧ Q (.int (if i < j then j else i)) H
theorem go_cbMax {t : TA} (k : t σ H fun vs H1 => rMax2 vs H1 Q) : tCB (fun xs H Q => ∃ i j, xs = [.int i, .int j] ∧ Q (.int (if j > i then j else i)) H) t σ H Q := k
theorem go_max {i j : Int} (k : Q (.int (if i < j then j else i)) H) : rMax2 [.int i, .int j] H Q := ⟨i, j, rfl, k⟩
def rMin2 : List V → Hp → VK → Prop := fun xs H Q => ∃ i j, xs = [.int i, .int j] ∧ Q (.int (if j < i then j else i)) H
theorem go_cbMin {t : TA} (k : t σ H fun vs H1 => rMin2 vs H1 Q) : tCB (fun xs H Q => ∃ i j, xs = [.int i, .int j] ∧ Q (.int (if j < i then j else i)) H) t σ H Q := k
theorem go_min {i j : Int} (k : Q (.int (if j < i then j else i)) H) : rMin2 [.int i, .int j] H Q := ⟨i, j, rfl, k⟩
theorem go_dec {c A B : Prop} [Decidable c] (h1 : c → A) (h2 : ¬ c → B) : if decide c = true then A else B := by
  by_cases h : c
  · rw [decide_eq_true h]
    exact iteT (h1 h)
  · rw [decide_eq_false h]
    exact iteF (h2 h)
theorem go_ndec {c A B : Prop} [Decidable c] (h1 : ¬ c → A) (h2 : c → B) : if (!decide c) = true then A else B := by
  by_cases h : c
  · rw [decide_eq_true h]
    exact iteF (h2 h)
  · rw [decide_eq_false h]
    exact iteT (h1 h)
theorem go_b {b : Bool} {A B : Prop} (h1 : b = true → A) (h2 : b = false → B) : if b = true then A else B := by
  cases b
  · exact iteF (h2 rfl)
  · exact iteT (h1 rfl)
theorem go_nb {b : Bool} {A B : Prop} (h1 : b = false → A) (h2 : b = true → B) : if (!b) = true then A else B := by
  cases b
  · exact iteT (h1 rfl)
  · exact iteF (h2 rfl)
theorem go_nT {A B : Prop} (k : B) : if (!true) = true then A else B := iteF k
theorem go_nF {A B : Prop} (k : A) : if (!false) = true then A else B := iteT k
theorem go_seqR {t u : TS} (R : St → Hp → Prop) (h : ∀ σ' H', R σ' H' → u D σ' H') (k : (∀ σ' H', R σ' H' → u D σ' H') → t { D with nx := u D } σ H) : tSeq t u D σ H := k h
theorem go_setL {p : Addr} {xs xs' : List V} {i : Int} {j : Nat} {R : Hp → Prop} (h : H p = some (.lst xs)) (ij : ixN xs.length i = some j) (e : xs.set j v = xs') (k : R (upd H p (.lst xs'))) :
    rSetL (.ref p) (.int i) v H R := by
  subst e
  exact ⟨p, xs, i, j, rfl, rfl, h, ij, k⟩
theorem go_sub {to ti : TE} {t : TSet} {R : St → Hp → Prop} (k : to σ H fun o H1 => ti σ H1 fun i H2 => t o i v H2 fun H3 => R σ H3) : gSub to ti t v σ H R := k
theorem go_ixl {p : Addr} {xs : List V} {i : Int} (h : SqL K H p xs) (a : atI xs i = some v) (k : Q v H) : rIxL K (.ref p) (.int i) H Q := ⟨p, xs, i, v, rfl, rfl, h, a, k⟩
theorem go_ixt {p : Addr} {xs : List V} {i : Int} (h : SqT K H p xs) (a : atI xs i = some v) (k : Q v H) : rIxT K (.ref p) (.int i) H Q := ⟨p, xs, i, v, rfl, rfl, h, a, k⟩
theorem go_eq {x y : V} (s : scal x y = true) (k : Q (.bl (decide (x = y))) H) : rEq x y H Q := ⟨s, k⟩
theorem go_ne {x y : V} (s : scal x y = true) (k : Q (.bl (!decide (x = y))) H) : rNe x y H Q := ⟨s, k⟩
theorem go_chain {r r' : R2} {ta tb tc : TE} (k : ta σ H fun x H1 => tb σ H1 fun y H2 => r x y H2 fun z H3 => ∃ k, z = .bl k ∧ (if k = true then tc σ H3 fun w' H4 => r' y w' H4 Q else Q (.bl false) H3)) : tChain r r' ta tb tc σ H Q := k
theorem go_inc {W P : Prop} (k : P) (h : P → W) : W := h k
end

/-! ### what stays -/
/-- all that was tracked is as it was, but for what stands at p -/
def Kp (p : Addr) (H H' : Hp) : Prop := ∀ b o, H b = some o → b ≠ p → H' b = some o
theorem Kp.refl (p : Addr) (H : Hp) : Kp p H H := fun _ _ h _ => h
theorem Kp.trans {p : Addr} {H H1 H2 : Hp} (a : Kp p H H1) (b : Kp p H1 H2) : Kp p H H2 := fun c o h n => b c o (a c o h n) n
theorem Kp.new {p q : Addr} {H : Hp} {o : HO} (n : H q = none) : Kp p H (upd H q o) := fun b u h _ => (upd_ne (ne_of_none h n)).trans h
theorem Kp.put {p : Addr} {H : Hp} {o : HO} : Kp p H (upd H p o) := fun b u h n => (upd_ne n).trans h
theorem Same.kp {p : Addr} {H H' : Hp} (s : Same H H') : Kp p H H' := fun b o h _ => s b o h
theorem Kp.seqL {p a : Addr} {K : PySem.W.Frag} {H H' : Hp} {xs : List V} (e : Kp p H H') (h : SqL K H a xs) (n : a ≠ p) : SqL K H' a xs := by
  rcases h with (h | ⟨o, h⟩) | h
  · exact .inl (.inl (e _ _ h n))
  · exact .inl (.inr ⟨o, e _ _ h n⟩)
  · exact .inr h
theorem Kp.seqT {p a : Addr} {K : PySem.W.Frag} {H H' : Hp} {xs : List V} (e : Kp p H H') (h : SqT K H a xs) (n : a ≠ p) : SqT K H' a xs := by
  rcases h with (h | ⟨o, h⟩) | h
  · exact .inl (.inl (e _ _ h n))
  · exact .inl (.inr ⟨o, e _ _ h n⟩)
  · exact .inr h
theorem upd_here {H : Hp} {p : Addr} {o : HO} (_ : H p = none) : upd H p o p = some o := upd_same
theorem upd_keep {H : Hp} {p b : Addr} {o u : HO} (n : H p = none) (h : H b = some u) : upd H p o b = some u := (upd_ne (ne_of_none h n)).trans h
theorem same_at {H H' : Hp} {a : Addr} {o : HO} (s : Same H H') (h : H a = some o) : H' a = some o := s a o h
theorem kp_at {p : Addr} {H H' : Hp} {a : Addr} {o : HO} (s : Kp p H H') (n : a ≠ p) (h : H a = some o) : H' a = some o := s a o h n
theorem upd_at {H : Hp} {l a : Addr} {o u : HO} (n : a ≠ l) (h : H a = some o) : upd H l u a = some o := (upd_ne n).trans h
theorem Same.new {q : Addr} {H : Hp} {o : HO} (n : H q = none) : Same H (upd H q o) := fun b u h => upd_keep n h

theorem HD.int {y : Sys} {K : PySem.W.Frag} {mg : Str → Option Value} (S : HD y K mg) {x : Str} {i : Int} (c : (He.Fa.int x i).ok K = true) : ∃ t, mg x = some (.int i t) := by
  have c2 : (match PySem.W.nsIn K mainGlobals x with
    | some (some (.int j _)) => decide (j = i)
    | _ => false) = true := c
  split at c2
  · rename_i j t e
    have ej : j = i := of_decide_eq_true c2
    subst ej
    exact ⟨t, S.gl _ _ e⟩
  · cases c2

/-! ### operators and properties by bundles; calls without arguments -/
def Op (P : Program) (w : World) (K : PySem.W.Frag) (mg : Str → Option Value) (base : Heap) (CX : CXT) (k : Nat) (C : Addr) (m : Str) (sp : Sp) : Prop :=
  ∃ f fd ps, FnOk P w K mg base CX k f fd ps sp ∧ PySem.W.findIn K (.ref C) m = some (some (.ref f)) ∧ PySem.W.isFn K (.ref f) = true ∧ Binds K fd ps []
def Pr (P : Program) (w : World) (K : PySem.W.Frag) (mg : Str → Option Value) (base : Heap) (CX : CXT) (k : Nat) (C : Addr) (m : Str) (sp : Sp) : Prop :=
  ∃ p f fd ps, FnOk P w K mg base CX k f fd ps sp ∧ Cls K C ∧ PropOf K C m p f ∧ Binds K fd ps []
section
variable {X : Cx} {CX : CXT} {j k : Nat} {x m : Str} {C : Addr} {sp : Sp} {E : XK} {p pos apos : Pos} {e o : Expr} {es : List Expr} {t : TA} {ta : TE}
theorem op_own {op : CmpOp} (c : Op X.prog X.w X.K X.mg X.base CX k C (cmpInfo op).2.1 sp) (hop : ∀ a b, compareOp op a b = richCompare op a b) (hr : Room j X.A) (hk : k ≤ j) (hx : Passes CX X E) :
    OpR X (compareOp op) (rOwnC X.K C sp E) := by
  obtain ⟨f, fd, ps, F, h1, h2, b⟩ := c
  exact op_ownC hop h1 h2 F b (hr.mono hk) hx
theorem op_neq (c : Op X.prog X.w X.K X.mg X.base CX k C "__eq__" sp) (hne : PySem.W.findIn X.K (.ref C) "__ne__" = some (some (.builtin "object.__ne__"))) (hm : PySem.W.mroIn X.K C (.type "object") = some true)
    (hr : Room j X.A) (hk : k + 1 ≤ j) (hx : Passes CX X E) : OpR X (compareOp .NotEq) (rNeC X.K C sp E) := by
  obtain ⟨f, fd, ps, F, h1, h2, b⟩ := c
  exact op_neC hne hm h1 h2 F b (hr.mono hk) hx
theorem pe_f0 (c : Cl X.prog X.w X.K X.mg X.base CX k x sp) (hr : Room j X.A) (hk : k ≤ j) (hx : Passes CX X E) (hg : Gl X x := by rfl) (hdb : (x == ("__debug__" : Str)) = false := by decide) :
    PE X (.Call (.Name x p) [] [] pos) (tCall sp [] E tNil) := by
  obtain ⟨f, fd, ps, F, hm, kp, b⟩ := c
  exact pe_call0 F (hr.mono hk) hg hm kp b .nil hx hdb
theorem pe_prp (c : Pr X.prog X.w X.K X.mg X.base CX k C m sp) (hr : Room j X.A) (hk : k + 1 ≤ j) (hx : Passes CX X.nox E) (he : PE X e ta)
    (hab : attributeBase e m X.env (eval e X.env) = eval e X.env := by rfl) : PE X (.Attribute e m pos) (tProp C sp [] E ta) := by
  obtain ⟨q, f, fd, ps, F, cl, hp, b⟩ := c
  exact pe_prop he cl hp F (hr.mono hk) b .nil hx hab
end

/-! ### new objects, the heap behind them by a letter -/
section
variable {H : Hp} {Q : VK} {K : PySem.W.Frag}
theorem newL {xs : List V} (h : xs.length ≤ 1000) (k : ∀ p H', H p = none → Same H H' → H' p = some (.lst xs) → Q (.ref p) H') : rNewL xs H Q := newL_raw h fun p n => k p _ n (Same.new n) upd_same
theorem newT {xs : List V} (h : xs.length ≤ 1000) (k : ∀ p H', H p = none → Same H H' → H' p = some (.tup xs) → Q (.ref p) H') : rNewT xs H Q := newT_raw h fun p n => k p _ n (Same.new n) upd_same
theorem newSl {a : Addr} {lo hi : Option Int} {xs ys : List V} (h : SqL K H a xs) (e : cutV xs lo hi = ys) (k : ∀ p H', H p = none → Same H H' → H' p = some (.lst ys) → Q (.ref p) H') : rSlL K (.ref a) lo hi H Q := by
  subst e
  exact ⟨a, xs, rfl, h, fun p n => k p _ n (Same.new n) upd_same⟩
theorem newLstOf {a : Addr} {ys : List V} (h : SqL K H a ys ∨ SqT K H a ys) (k : ∀ l H', H l = none → Same H H' → H' l = some (.lst ys) → Q (.ref l) H') : rLstOf K [.ref a] H Q := ⟨a, ys, rfl, h, fun p n => k p _ n (Same.new n) upd_same⟩
theorem newCat {a b : Addr} {xs ys zs : List V} (ha : H a = some (.lst xs)) (hb : H b = some (.lst ys)) (sz : zs.length ≤ 100000) (e : xs ++ ys = zs) (k : ∀ l H', H l = none → Same H H' → H' l = some (.lst zs) → Q (.ref l) H') : rCat (.ref a) (.ref b) H Q := by
  subst e
  rw [List.length_append] at sz
  exact ⟨a, b, xs, ys, rfl, rfl, ha, hb, Nat.le_trans sz (by decide), fun p n => k p _ n (Same.new n) upd_same⟩
end

/-! ### fields -/
theorem lk_here {k : Str} {v : V} {r : List (Str × V)} : List.lookup k ((k, v) :: r) = some v := by
  have e : (k == k) = true := beq_self_eq_true k
  simp only [List.lookup, e]
theorem lk_skip {k g : Str} {v w : V} {r : List (Str × V)} (h : (k == g) = false) (q : List.lookup k r = some v) : List.lookup k ((g, w) :: r) = some v := by
  simp only [List.lookup, h]
  exact q
theorem lk_nil {k : Str} : List.lookup k ([] : List (Str × V)) = none := rfl
theorem lk_no {k g : Str} {w : V} {r : List (Str × V)} (h : (k == g) = false) (q : List.lookup k r = none) : List.lookup k ((g, w) :: r) = none := by
  simp only [List.lookup, h]
  exact q
theorem put_nil {f : Str} {v : V} : putF f v [] = [(f, v)] := rfl
theorem put_here {f : Str} {v x : V} {r : List (Str × V)} : putF f v ((f, x) :: r) = (f, v) :: r := if_pos rfl
theorem put_skip {f g : Str} {v x : V} {r r' : List (Str × V)} (h : ¬ g = f) (q : putF f v r = r') : putF f v ((g, x) :: r) = (g, x) :: r' := (if_neg h).trans (congrArg _ q)
def rSFld (K : PySem.W.Frag) (f : Str) (y x : V) (H : Hp) (R : Hp → Prop) : Prop := ∃ a C dx fs, x = .ref a ∧ H a = some (.ins C dx fs) ∧ Cls K C ∧ NoAttr K C f ∧ fs.length < 1000 ∧ R (upd H a (.ins C dx (putF f y fs)))
theorem go_sfld {K : PySem.W.Frag} {σ : St} {H : Hp} {D : Ends} {ta tv : TE} {f : Str} (k : tv σ H fun y H1 => ta σ H1 fun x H2 => rSFld K f y x H2 (D.nx σ)) : sFld K ta tv f D σ H := k
theorem go_sfldx {K : PySem.W.Frag} {H : Hp} {a C dx : Addr} {fs fs' : List (Str × V)} {f : Str} {y : V} {R : Hp → Prop} (h : H a = some (.ins C dx fs)) (c : Cls K C) (n : NoAttr K C f) (e : putF f y fs = fs') (l : fs.length < 1000)
    (k : R (upd H a (.ins C dx fs'))) : rSFld K f y (.ref a) H R := by
  subst e
  exact ⟨a, C, dx, fs, rfl, h, c, n, l, k⟩

def rCVal (K : PySem.W.Frag) (f : Str) (x : V) (H : Hp) (Q : VK) : Prop := ∃ C mc v u, x = .ref C ∧ ClX.CRead K C mc ∧ ClX.CVal K C mc f v u ∧ Q v H
theorem go_cval {K : PySem.W.Frag} {σ : St} {H : Hp} {Q : VK} {ta : TE} {f : Str} (k : ta σ H fun x H1 => rCVal K f x H1 Q) : ClX.tCVal K ta f σ H Q := k
theorem go_cvalx {K : PySem.W.Frag} {H : Hp} {Q : VK} {C : Addr} {mc u : Value} {v : V} {f : Str} (c : ClX.CRead K C mc) (d : ClX.CVal K C mc f v u) (k : Q v H) : rCVal K f (.ref C) H Q := ⟨C, mc, v, u, rfl, c, d, k⟩

/-! ### data of numbers -/
theorem dpInts {K : PySem.W.Frag} {H : Hp} : ∀ ns : List Int, DpAll K H (ns.map V.int) (ns.map PyData.int)
  | [] => .nil
  | n :: ns => .cons (.int n) (dpInts ns)
theorem layInts : ∀ ns : List Int, PyData.canLayAll0 (ns.map PyData.int) = true
  | [] => rfl
  | n :: ns => by
    show PyData.canLayAll0 (PyData.int n :: ns.map PyData.int) = true
    rw [PyData.canLayAll0, layInts ns]
    rfl
theorem depthInts : ∀ ns : List Int, PyData.depthAll (ns.map PyData.int) ≤ 1
  | [] => by decide
  | n :: ns => by
    have h := depthInts ns
    show PyData.depthAll (PyData.int n :: ns.map PyData.int) ≤ 1
    rw [PyData.depthAll]
    have e : (PyData.int n).depth ≤ 1 := by rw [PyData.depth]; omega
    omega
theorem shInts (ns : List Int) : SeqAt.shaped (.list (ns.map PyData.int)) = true := by
  unfold SeqAt.shaped
  rw [PyData.canLay0, layInts, PyData.depth]
  have := depthInts ns
  simp
  omega
theorem eqvInts : ∀ ns ms : List Int, PyData.eqvAll (ns.map PyData.int) (ms.map PyData.int) = decide (ns = ms)
  | [], [] => by rw [List.map_nil, PyData.eqvAll]; rfl
  | [], _ :: _ => by rw [List.map_nil, List.map_cons, PyData.eqvAll]; rfl
  | _ :: _, [] => by rw [List.map_nil, List.map_cons, PyData.eqvAll]; rfl
  | n :: ns, m :: ms => by
    rw [List.map_cons, List.map_cons, PyData.eqvAll, eqvInts ns ms, PyData.eqv]
    by_cases h : n = m
    · by_cases h2 : ns = ms
      · subst h h2; simp
      · simp [h, h2]
    · simp [h]
theorem go_neInts {K : PySem.W.Frag} {H : Hp} {Q : VK} {a b : Addr} {ns ms : List Int} (ha : SqL K H a (ns.map V.int)) (hb : SqL K H b (ms.map V.int)) (k : Q (.bl (!decide (ns = ms))) H) :
    rNeD K (.ref a) (.ref b) H Q := by
  refine ⟨_, _, .lst ha (dpInts ns), .lst hb (dpInts ms), shInts ns, shInts ms, ?_⟩
  rw [PyData.eqv, eqvInts]
  exact k
theorem go_eqInts {K : PySem.W.Frag} {H : Hp} {Q : VK} {a b : Addr} {ns ms : List Int} (ha : SqL K H a (ns.map V.int)) (hb : SqL K H b (ms.map V.int)) (k : Q (.bl (decide (ns = ms))) H) :
    rEqD K (.ref a) (.ref b) H Q := by
  refine ⟨_, _, .lst ha (dpInts ns), .lst hb (dpInts ms), shInts ns, shInts ms, ?_⟩
  rw [PyData.eqv, eqvInts]
  exact k
theorem atI_mod {α : Type} {xs : List α} {i : Int} (h0 : 0 ≤ i) (h1 : i < xs.length) : ∃ v, atI xs i = some v ∧ v ∈ xs := by
  obtain ⟨j, rfl⟩ := Int.eq_ofNat_of_zero_le h0
  have hj : j < xs.length := by omega
  exact ⟨xs[j], atI_nat (by simp [hj]), List.getElem_mem hj⟩

theorem mixOk {x b c1 c2 c3 : Int} (h0 : 0 ≤ x) (h1 : x < 4294967296) (b0 : 0 ≤ b) (b1 : b ≤ 1000000) (d1 : 0 ≤ c1) (e1 : c1 ≤ 1000000) (d2 : 0 ≤ c2) (e2 : c2 ≤ 1000000) (d3 : 0 ≤ c3) (e3 : c3 ≤ 1000000) :
    (x * (2 * b + c1) + c2 * b * b + c3).natAbs < 2 ^ 64 := by
  have u : x * (2 * b + c1) ≤ 4294967296 * 3000000 := Int.mul_le_mul (by omega) (by omega) (by omega) (by omega)
  have u0 : 0 ≤ x * (2 * b + c1) := Int.mul_nonneg h0 (by omega)
  have v : c2 * b ≤ 1000000 * 1000000 := Int.mul_le_mul e2 b1 b0 (by omega)
  have v0 : 0 ≤ c2 * b := Int.mul_nonneg d2 b0
  have w : c2 * b * b ≤ 1000000 * 1000000 * 1000000 := Int.mul_le_mul v b1 b0 (by omega)
  have w0 : 0 ≤ c2 * b * b := Int.mul_nonneg v0 b0
  omega

theorem cut_upto (xs : List V) (k : Nat) : cutV xs none (some (k : Int)) = xs.take k := by
  unfold cutV
  rw [HT.sIx_nat, HT.sIx_none, List.drop_zero, Nat.sub_zero]
  by_cases h : k ≤ xs.length
  · rw [Nat.min_eq_left h]
  · rw [Nat.min_eq_right (by omega), List.take_length, List.take_of_length_le (by omega)]
theorem cut_from (xs : List V) (k : Nat) : cutV xs (some (k : Int)) none = xs.drop k := by
  unfold cutV
  rw [HT.sIx_nat, HT.sIx_none]
  by_cases h : k ≤ xs.length
  · rw [Nat.min_eq_left h, List.take_of_length_le (by rw [List.length_drop]; omega)]
  · rw [Nat.min_eq_right (by omega), List.drop_length, List.take_nil, List.drop_of_length_le (by omega)]

/-! ### rules whose reading names the written part: told of a part that is the same -/
theorem opk {X : Cx} {f : Value → Value → Sem Value} {r : PySem.W.Frag → R2} {K' : PySem.W.Frag} (h : X.K = K') (o : OpR X f (r X.K)) : OpR X f (r K') := by
  subst h
  exact o
theorem ixk {X : Cx} {r : PySem.W.Frag → R2} {K' : PySem.W.Frag} (h : X.K = K') (o : IxR X (r X.K)) : IxR X (r K') := by
  subst h
  exact o
theorem cak {X : Cx} {f : Value} {r : PySem.W.Frag → List V → Hp → VK → Prop} {K' : PySem.W.Frag} (h : X.K = K') (o : CallR X f (r X.K)) : CallR X f (r K') := by
  subst h
  exact o
theorem pe_fldk {X : Cx} {e : Expr} {f : Str} {pos : Pos} {ta : TE} {K' : PySem.W.Frag} (h : X.K = K') (he : PE X e ta) (hb : attributeBase e f X.env (eval e X.env) = eval e X.env) : PE X (.Attribute e f pos) (tFld K' ta f) := by
  subst h
  exact pe_fld he hb

theorem tyIns {K : PySem.W.Frag} {H : Hp} {a C dx : Addr} {fs : List (Str × V)} (c : InsC K C) (h : H a = some (.ins C dx fs)) : TyX K H (.ref a) (.ref C) := .base (.ins h c.cl c.ha c.hn c.ht c.hm)
theorem go_own {K : PySem.W.Frag} {H : Hp} {Q : VK} {a C dx : Addr} {fs : List (Str × V)} {sp : Sp} {E : XK} {y : V} {t : Value} (h : H a = some (.ins C dx fs)) (ty : TyX K H y t) (n : PySem.W.notFirst K C t = true) (k : sp [.ref a, y] H Q E) :
    rOwnC K C sp E (.ref a) y H Q := ⟨a, dx, fs, t, rfl, h, ty, n, k⟩
theorem go_nec {K : PySem.W.Frag} {H : Hp} {Q : VK} {a C dx : Addr} {fs : List (Str × V)} {sp : Sp} {E : XK} {y : V} {t : Value} (h : H a = some (.ins C dx fs)) (ty : TyX K H y t) (n : PySem.W.notFirst K C t = true)
    (k : sp [.ref a, y] H (fun v H' => ∃ r, v = .bl r ∧ Q (.bl (!r)) H') E) : rNeC K C sp E (.ref a) y H Q := ⟨a, dx, fs, t, rfl, h, ty, n, k⟩

theorem op_ownk {X : Cx} {CX : CXT} {j k : Nat} {C : Addr} {sp : Sp} {E : XK} {op : CmpOp} {K' : PySem.W.Frag} (h : X.K = K') (c : Op X.prog X.w X.K X.mg X.base CX k C (cmpInfo op).2.1 sp) (hop : ∀ a b, compareOp op a b = richCompare op a b) (hr : Room j X.A) (hk : k ≤ j)
    (hx : Passes CX X E) : OpR X (compareOp op) (rOwnC K' C sp E) := by
  subst h
  exact op_own c hop hr hk hx
theorem op_neqk {X : Cx} {CX : CXT} {j k : Nat} {C : Addr} {sp : Sp} {E : XK} {K' : PySem.W.Frag} (h : X.K = K') (c : Op X.prog X.w X.K X.mg X.base CX k C "__eq__" sp) (hne : PySem.W.findIn X.K (.ref C) "__ne__" = some (some (.builtin "object.__ne__"))) (hm : PySem.W.mroIn X.K C (.type "object") = some true)
    (hr : Room j X.A) (hk : k + 1 ≤ j) (hx : Passes CX X E) : OpR X (compareOp .NotEq) (rNeC K' C sp E) := by
  subst h
  exact op_neq c hne hm hr hk hx

/-! ### great numbers -/
theorem log_lt {i : Int} {k : Nat} (h : i.natAbs < 2 ^ k) (hk : 0 < k) : i.natAbs.log2 < k := by
  by_cases z : i.natAbs = 0
  · rw [z]
    exact hk
  · exact (Nat.log2_lt z).mpr h
theorem divW {i j : Int} (h0 : 0 < j) (h1 : j < 1000000000000000000000000000000000000000000000000000000000000) : CDivW i j := by
  refine ⟨h0, Nat.lt_of_lt_of_le (log_lt (k := 200) ?_ (by decide)) (by decide)⟩
  have : (2 : Nat) ^ 200 = 1606938044258990275541962092341162602522202993782792835301376 := by decide
  omega
theorem mulI {i j : Int} (h1 : -1000000000000000000000000000000000000000000000000000000000000 < i) (h2 : i < 1000000000000000000000000000000000000000000000000000000000000)
    (h3 : -1000000000000000000000000000000000000000000000000000000000000 < j) (h4 : j < 1000000000000000000000000000000000000000000000000000000000000) : CMulW i j := by
  have e : (2 : Nat) ^ 200 = 1606938044258990275541962092341162602522202993782792835301376 := by decide
  have a := log_lt (i := i) (k := 200) (by omega) (by decide)
  have b := log_lt (i := j) (k := 200) (by omega) (by decide)
  show i.natAbs.log2 + j.natAbs.log2 < 1000000
  omega

/-! ### the laws' pen: cells, how many are begun, what is left of a great one -/
def Pen (K : PySem.W.Frag) (H : Hp) (p : Addr) (n : Nat) : Prop := ∃ (c : Addr) (ns : List Int) (b g : Int), H p = some (.lst [.ref c, .int b, .int g]) ∧ SqL K H c (ns.map V.int) ∧
  ns.length ≤ 63 ∧ 0 ≤ b ∧ b ≤ n ∧ c ≠ p
theorem Pen.mono {K : PySem.W.Frag} {H : Hp} {p : Addr} {n m : Nat} (h : Pen K H p n) (l : n ≤ m) : Pen K H p m := by
  obtain ⟨c, ns, b, g, h1, h2, h3, h4, h5, h6⟩ := h
  exact ⟨c, ns, b, g, h1, h2, h3, h4, by omega, h6⟩
theorem Pen.same {K : PySem.W.Frag} {H H' : Hp} {p : Addr} {n : Nat} (h : Pen K H p n) (s : Same H H') : Pen K H' p n := by
  obtain ⟨c, ns, b, g, h1, h2, h3, h4, h5, h6⟩ := h
  exact ⟨c, ns, b, g, s _ _ h1, s.seq h2, h3, h4, h5, h6⟩
theorem Pen.new {K : PySem.W.Frag} {H : Hp} {p q : Addr} {o : HO} {n : Nat} (h : Pen K H p n) (e : H q = none) : Pen K (upd H q o) p n := h.same (Same.new e)
def spPen (K : PySem.W.Frag) : Sp := fun vs H Q _ => ∃ (a : Addr) (ns : List Int), vs = [.ref a] ∧ SqL K H a (ns.map V.int) ∧ ∀ p H', Pen K H' p 0 → Same H H' → H p = none → Q (.ref p) H'
def spDraw (K : PySem.W.Frag) : Sp := fun vs H Q _ => ∃ (p : Addr) (m : Int) (n : Nat), vs = [.ref p, .int m] ∧ 0 < m ∧ m < 10000000000000000000000000000000000000000 ∧ Pen K H p n ∧ n < 1000000 ∧
  ∀ k H', 0 ≤ k → k < m → Pen K H' p (n + 1) → Kp p H H' → Q (.int k) H'
def spPick (K : PySem.W.Frag) : Sp := fun vs H Q _ => ∃ (p a : Addr) (xs : List V) (n : Nat), vs = [.ref p, .ref a] ∧ (SqL K H a xs ∨ SqT K H a xs) ∧ xs ≠ [] ∧ xs.length ≤ 1000 ∧ a ≠ p ∧ Pen K H p n ∧ n < 1000000 ∧
  ∀ v H', v ∈ xs → Pen K H' p (n + 1) → Kp p H H' → Q v H'
end CT
namespace CT
open PySem PySem.Spec PyProof.Rows L2
open He (ga ma fAd)

/-! ### comprehensions -/
/-- what a comprehension asks once its source is known -/
def rLc (J : It) (g : TG) (tt : TT) (te : TE) (vs : List Nat) (σ : St) (H1 : Hp) (Q : VK) : Prop := ∀ D, H1 D = none → ∃ W : Nat → Nat → Hp → Prop, (∃ m, W 0 m (upd H1 D (.lst []))) ∧ ∀ i m H, W i m H →
  (J.stop i H ∧ Q (.ref D) H) ∨ (J.go i H ∧ ∃ Nx : Hp → Prop, (∀ H', Nx H' → ∃ m', m' < m ∧ W (i + 1) m' H') ∧ ∀ x H', J.yld i H x H' → g x (wipe σ vs) H' fun σ2 H2 => wipe σ2 vs = wipe σ vs ∧ tt σ2 H2 fun b H3 =>
    if b = true then te σ2 H3 fun y H4 => ∃ acc, H4 D = some (.lst acc) ∧ acc.length < sizeLine ∧ Nx (upd H4 D (.lst (acc ++ [y]))) else Nx H3)
section
variable {σ : St} {H : Hp} {Q : VK} {K : PySem.W.Frag}
theorem go_yes {R : Bool → Hp → Prop} (k : R true H) : tYes σ H R := k
theorem go_lc {wi : TI} {g : TG} {tt : TT} {te : TE} {vs : List Nat} (k : wi σ H fun J H1 => rLc J g tt te vs σ H1 Q) : tLc wi g tt te vs σ H Q := k
def rRng1 (vs : List V) (H : Hp) (R : It → Hp → Prop) : Prop := ∃ j : Int, vs = [.int j] ∧ -(2 ^ 62) ≤ j ∧ j < 2 ^ 62 ∧ R (Itr 0 j.toNat) H
theorem go_rng1 {ta : TA} {R : It → Hp → Prop} (k : ta σ H fun vs H1 => rRng1 vs H1 R) : iRng1 ta σ H R := k
theorem go_rng1x {j : Int} {R : It → Hp → Prop} (h : -4611686018427387904 ≤ j ∧ j < 4611686018427387904) (k : R (Itr 0 j.toNat) H) : rRng1 [.int j] H R := ⟨j, rfl, h.1, h.2, k⟩
def rRng2 (vs : List V) (H : Hp) (R : It → Hp → Prop) : Prop := ∃ i j : Int, vs = [.int i, .int j] ∧ (-(2 ^ 62) ≤ i ∧ i < 2 ^ 62 ∧ -(2 ^ 62) ≤ j ∧ j < 2 ^ 62) ∧ R (Itr i (j - i).toNat) H
theorem go_rng2 {ta : TA} {R : It → Hp → Prop} (k : ta σ H fun vs H1 => rRng2 vs H1 R) : iRng2 ta σ H R := k
theorem go_rng2x {i j : Int} {R : It → Hp → Prop} (h : (-4611686018427387904 ≤ i ∧ i < 4611686018427387904) ∧ -4611686018427387904 ≤ j ∧ j < 4611686018427387904) (k : R (Itr i (j - i).toNat) H) : rRng2 [.int i, .int j] H R :=
  ⟨i, j, rfl, ⟨h.1.1, h.1.2, h.2.1, h.2.2⟩, k⟩
def rListI (K : PySem.W.Frag) (x : V) (H : Hp) (R : It → Hp → Prop) : Prop := ∃ a, x = .ref a ∧ (∃ xs, SqL K H a xs) ∧ R (Itl K a) H
theorem go_listI {tl : TE} {R : It → Hp → Prop} (k : tl σ H fun x H1 => rListI K x H1 R) : iList K tl σ H R := k
theorem go_listIx {a : Addr} {xs : List V} {R : It → Hp → Prop} (h : SqL K H a xs) (k : R (Itl K a) H) : rListI K (.ref a) H R := ⟨a, rfl, ⟨xs, h⟩, k⟩
def rTupI (K : PySem.W.Frag) (x : V) (H : Hp) (R : It → Hp → Prop) : Prop := ∃ a, x = .ref a ∧ (∃ xs, SqT K H a xs) ∧ R (Itt K a) H
theorem go_tupI {tl : TE} {R : It → Hp → Prop} (k : tl σ H fun x H1 => rTupI K x H1 R) : iTup K tl σ H R := k
theorem go_tupIx {a : Addr} {xs : List V} {R : It → Hp → Prop} (h : SqT K H a xs) (k : R (Itt K a) H) : rTupI K (.ref a) H R := ⟨a, rfl, ⟨xs, h⟩, k⟩

/-! #### without effect on what was tracked -/
theorem lcRange {j n : Nat} {vs : List Nat} {te : TE} (f : Nat → V) (hn : n ≤ 100000) (hw : ∀ v, wipe ((wipe σ vs).set j (some v)) vs = wipe σ vs)
    (hs : ∀ (i : Nat) (H' : Hp) (Q' : VK), i < n → Same H H' → (∀ H'', Same H' H'' → Q' (f i) H'') → te ((wipe σ vs).set j (some (.int i))) H' Q')
    (k : ∀ D H', H D = none → Same H H' → H' D = some (.lst ((List.range n).map f)) → Q (.ref D) H') : rLc (Itr 0 n) (gName j) tYes te vs σ H Q := by
  intro D nD
  refine lc_range (lo := 0) (n := n) (fun i H' => Same H H' ∧ H' D = some (.lst ((List.range i).map f))) ⟨Same.new nD, upd_same⟩ ?_ fun H' ⟨s, d⟩ => k D H' nD s d
  rintro i H' hi ⟨s, d⟩
  refine ⟨hw _, ?_⟩
  refine go_yes ?_
  refine iteT ?_
  rw [Int.zero_add]
  refine hs i H' _ hi s fun H'' s2 => ?_
  refine ⟨_, s2 _ _ d, ?_, ?_, ?_⟩
  · rw [List.length_map, List.length_range]
    exact Nat.lt_of_lt_of_le (Nat.lt_of_lt_of_le hi hn) (by decide)
  · exact fun b o h => (upd_ne (ne_of_none h nD)).trans (s2 _ _ (s _ _ h))
  · rw [List.range_succ, List.map_append]
    exact upd_same
theorem lcList {j : Nat} {a : Addr} {xs : List V} {vs : List Nat} {te : TE} (f : V → V) (hn : xs.length ≤ 100000) (ha : SqL K H a xs) (hw : ∀ v, wipe ((wipe σ vs).set j (some v)) vs = wipe σ vs)
    (hs : ∀ (x : V) (H' : Hp) (Q' : VK), x ∈ xs → Same H H' → (∀ H'', Same H' H'' → Q' (f x) H'') → te ((wipe σ vs).set j (some x)) H' Q')
    (k : ∀ D H', H D = none → Same H H' → H' D = some (.lst (xs.map f)) → Q (.ref D) H') : rLc (Itl K a) (gName j) tYes te vs σ H Q := by
  intro D nD
  refine lc_list (K := K) (a := a) (xs := xs) (fun i H' => Same H H' ∧ H' D = some (.lst ((xs.take i).map f))) ⟨Same.new nD, upd_same⟩ (fun i H' _ p => p.1.seq ha) ?_ fun H' ⟨s, d⟩ => k D H' nD s (by rw [List.take_length] at d; exact d)
  rintro i x H' hi ⟨s, d⟩
  refine ⟨hw _, ?_⟩
  refine go_yes ?_
  refine iteT ?_
  obtain ⟨hlt, ex⟩ := List.getElem?_eq_some_iff.mp hi
  refine hs x H' _ (List.mem_of_getElem? hi) s fun H'' s2 => ?_
  refine ⟨_, s2 _ _ d, ?_, ?_, ?_⟩
  · rw [List.length_map, List.length_take]
    exact Nat.lt_of_lt_of_le (Nat.lt_of_lt_of_le (show min i xs.length < xs.length by omega) hn) (by decide)
  · exact fun b o h => (upd_ne (ne_of_none h nD)).trans (s2 _ _ (s _ _ h))
  · rw [List.take_add_one, hi, List.map_append]
    exact upd_same
/-- some are kept -/
theorem lcTupIf {j : Nat} {a : Addr} {xs : List V} {vs : List Nat} {tt : TT} {te : TE} (c : V → Bool) (f : V → V) (hn : xs.length ≤ 100000) (ha : SqT K H a xs) (hw : ∀ v, wipe ((wipe σ vs).set j (some v)) vs = wipe σ vs)
    (ht : ∀ (x : V) (H' : Hp) (Q' : Bool → Hp → Prop), x ∈ xs → Same H H' → (∀ H'', Same H' H'' → Q' (c x) H'') → tt ((wipe σ vs).set j (some x)) H' Q')
    (hs : ∀ (x : V) (H' : Hp) (Q' : VK), x ∈ xs → c x = true → Same H H' → (∀ H'', Same H' H'' → Q' (f x) H'') → te ((wipe σ vs).set j (some x)) H' Q')
    (k : ∀ D H', H D = none → Same H H' → H' D = some (.lst ((xs.filter c).map f)) → Q (.ref D) H') : rLc (Itt K a) (gName j) tt te vs σ H Q := by
  intro D nD
  refine lc_tup (K := K) (a := a) (xs := xs) (fun i H' => Same H H' ∧ H' D = some (.lst (((xs.take i).filter c).map f))) ⟨Same.new nD, upd_same⟩ (fun i H' _ p => ?_) ?_ fun H' ⟨s, d⟩ => k D H' nD s (by rw [List.take_length] at d; exact d)
  · obtain ⟨s, _⟩ := p
    rcases ha with (h | ⟨o, h⟩) | h
    · exact .inl (.inl (s _ _ h))
    · exact .inl (.inr ⟨o, s _ _ h⟩)
    · exact .inr h
  rintro i x H' hi ⟨s, d⟩
  refine ⟨hw _, ?_⟩
  have hx := List.mem_of_getElem? hi
  obtain ⟨hlt, ex⟩ := List.getElem?_eq_some_iff.mp hi
  have step : (xs.take (i + 1)).filter c = (xs.take i).filter c ++ (if c x = true then [x] else []) := by
    rw [List.take_add_one, hi, List.filter_append]
    cases e : c x <;> simp [e]
  refine ht x H' _ hx s fun H1 s1 => ?_
  refine go_b (fun e => ?_) fun e => ?_
  · refine hs x H1 _ hx e (s.trans s1) fun H'' s2 => ?_
    refine ⟨_, s2 _ _ (s1 _ _ d), ?_, ?_, ?_⟩
    · rw [List.length_map]
      have q := List.length_filter_le c (xs.take i)
      rw [List.length_take] at q
      exact Nat.lt_of_lt_of_le (Nat.lt_of_lt_of_le (show ((xs.take i).filter c).length < xs.length by omega) hn) (by decide)
    · exact fun b o h => (upd_ne (ne_of_none h nD)).trans (s2 _ _ (s1 _ _ (s _ _ h)))
    · rw [step, if_pos e, List.map_append]
      exact upd_same
  · refine ⟨s.trans s1, ?_⟩
    rw [step, if_neg (by rw [e]; exact Bool.false_ne_true), List.append_nil]
    exact s1 _ _ d
end

section
variable {σ : St} {H : Hp} {K : PySem.W.Frag}
theorem go_gtup {n : Nat} {t : TGs} {a : Addr} {xs : List V} {R : St → Hp → Prop} (h : SqT K H a xs) (e : xs.length = n) (k : t xs σ H R) : gTup K n t (.ref a) σ H R := ⟨a, xs, rfl, h, e, k⟩
theorem go_gcons {t : TG} {u : TGs} {v : V} {r : List V} {R : St → Hp → Prop} (k : t v σ H fun σ' H' => u r σ' H' R) : gCons t u (v :: r) σ H R := ⟨v, r, rfl, k⟩
theorem go_gnil {R : St → Hp → Prop} (k : R σ H) : gNil [] σ H R := ⟨rfl, k⟩
end
section
variable {σ : St} {H : Hp} {K : PySem.W.Frag} {Q : VK}
/-- a new instance -/
def rMake (C : Addr) (sp : Sp) (E : XK) (vs : List V) (H1 : Hp) (Q : VK) : Prop := ∀ x dx, H1 x = none → H1 dx = none → dx ≠ x → sp (.ref x :: (vs ++ [])) (upd (upd H1 dx (.own x)) x (.ins C dx [])) (fun v H2 => v = .non ∧ Q (.ref x) H2) E
theorem go_make {C : Addr} {sp : Sp} {E : XK} {t : TA} (k : t σ H fun vs H1 => rMake C sp E vs H1 Q) : tMake C sp [] E t σ H Q := k
/-- o.m(..) -/
def rMeth (C : Addr) (m : Str) (sp : Sp) (E : XK) (t : TA) (σ : St) (x : V) (H1 : Hp) (Q : VK) : Prop := ∃ a dx fs, x = .ref a ∧ H1 a = some (.ins C dx fs) ∧ fs.lookup m = none ∧ t σ H1 fun vs H2 => sp (x :: (vs ++ [])) H2 Q E
theorem go_meth {C : Addr} {m : Str} {sp : Sp} {E : XK} {ta : TE} {t : TA} (k : ta σ H fun x H1 => rMeth C m sp E t σ x H1 Q) : tMeth C m sp [] E ta t σ H Q := k
theorem go_methx {C a dx : Addr} {fs : List (Str × V)} {m : Str} {sp : Sp} {E : XK} {t : TA} (h : H a = some (.ins C dx fs)) (l : fs.lookup m = none) (k : t σ H fun vs H2 => sp (.ref a :: (vs ++ [])) H2 Q E) : rMeth C m sp E t σ (.ref a) H Q := ⟨a, dx, fs, rfl, h, l, k⟩
end
/-! ### loops -/
def rFor (J : It) (g : TG) (tb : TS) (D : Ends) (σ : St) (H : Hp) : Prop := ∃ W : Nat → Nat → St → Hp → Prop, (∃ m, W 0 m σ H) ∧ ∀ i m σ H, W i m σ H →
  (J.stop i H ∧ D.nx σ H) ∨ (J.go i H ∧ ∃ N : St → Hp → Prop, (∀ σ' H', N σ' H' → ∃ m', m' < m ∧ W (i + 1) m' σ' H') ∧ ∀ x H', J.yld i H x H' → g x σ H' fun σ2 H2 => tb { D with nx := N, ct := N, bk := D.nx } σ2 H2)
section
variable {σ : St} {H : Hp} {D : Ends} {K : PySem.W.Frag} {g : TG} {tb : TS}
theorem go_for {wi : TI} (k : wi σ H fun J H1 => rFor J g tb D σ H1) : tFor wi g tb D σ H := k
theorem forRange {lo : Int} {n : Nat} (Pv : Nat → St → Hp → Prop) (h0 : Pv 0 σ H)
    (hs : ∀ i σ H, i < n → Pv i σ H → g (.int (lo + i)) σ H fun σ2 H2 => tb { D with nx := Pv (i + 1), ct := Pv (i + 1), bk := D.nx } σ2 H2) (hd : ∀ σ H, Pv n σ H → D.nx σ H) : rFor (Itr lo n) g tb D σ H := for_range Pv h0 hs hd
theorem forList {a : Addr} {xs : List V} (Pv : Nat → St → Hp → Prop) (h0 : Pv 0 σ H) (hl : ∀ i σ H, i ≤ xs.length → Pv i σ H → SqL K H a xs)
    (hs : ∀ i x σ H, xs[i]? = some x → Pv i σ H → g x σ H fun σ2 H2 => tb { D with nx := Pv (i + 1), ct := Pv (i + 1), bk := D.nx } σ2 H2) (hd : ∀ σ H, Pv xs.length σ H → D.nx σ H) : rFor (Itl K a) g tb D σ H := for_list Pv h0 hl hs hd
theorem forTup {a : Addr} {xs : List V} (Pv : Nat → St → Hp → Prop) (h0 : Pv 0 σ H) (hl : ∀ i σ H, i ≤ xs.length → Pv i σ H → SqT K H a xs)
    (hs : ∀ i x σ H, xs[i]? = some x → Pv i σ H → g x σ H fun σ2 H2 => tb { D with nx := Pv (i + 1), ct := Pv (i + 1), bk := D.nx } σ2 H2) (hd : ∀ σ H, Pv xs.length σ H → D.nx σ H) : rFor (Itt K a) g tb D σ H := for_tup Pv h0 hl hs hd
theorem go_all {a : Addr} {bs : List Bool} {Q : VK} (h : SqL K H a (bs.map V.bl)) (k : Q (.bl (bs.all id)) H) : rAll K [.ref a] H Q := ⟨a, bs, rfl, h, k⟩
end

/-! ### the pen, used -/
section
variable {K : PySem.W.Frag} {H H' : Hp} {p a : Addr} {n : Nat} {Q : VK} {E : XK}
theorem Pen.lst (h : Pen K H p n) : ∃ xs, H p = some (.lst xs) := by
  obtain ⟨_, _, _, _, hp, _⟩ := h
  exact ⟨_, hp⟩
theorem Kp.free (k : Kp p H H') (h : Pen K H' p n) (e : H' a = none) : H a = none := by
  obtain ⟨xs, hp⟩ := h.lst
  cases q : H a with
  | none => rfl
  | some o =>
    by_cases z : a = p
    · rw [z, hp] at e
      cases e
    · rw [k a o q z] at e
      cases e
theorem Pen.ne_new (h : Pen K H p n) (e : H a = none) : a ≠ p := fun z => by
  obtain ⟨xs, hp⟩ := h.lst
  rw [z, hp] at e
  cases e
theorem Pen.ne_lst {xs : List V} (h : Pen K H p n) (e : H a = some (.lst xs)) (d : ∀ c b g, xs ≠ [.ref c, .int b, .int g]) : a ≠ p := fun z => by
  obtain ⟨c, _, b, g, hp, _⟩ := h
  rw [z, hp] at e
  cases e
  exact d c b g rfl
theorem Pen.ne_ins {C dx : Addr} {fs : List (Str × V)} (h : Pen K H p n) (e : H a = some (.ins C dx fs)) : a ≠ p := fun z => by
  obtain ⟨xs, hp⟩ := h.lst
  rw [z, hp] at e
  cases e
theorem draw_go {m : Int} (hP : Pen K H p n) (hn : n < 1000000) (h0 : 0 < m) (h1 : m < 10000000000000000000000000000000000000000) (k : ∀ i H', 0 ≤ i → i < m → Pen K H' p (n + 1) → Kp p H H' → Q (.int i) H') : spDraw K [.ref p, .int m] H Q E :=
  ⟨p, m, n, rfl, h0, h1, hP, hn, k⟩
theorem pick_new {xs : List V} (hP : Pen K H p n) (hn : n < 1000000) (nq : H a = none) (hx : xs ≠ []) (hl : xs.length ≤ 1000) (k : ∀ v H', v ∈ xs → Pen K H' p (n + 1) → Kp p H H' → H' a = some (.lst xs) → Q v H') :
    spPick K [.ref p, .ref a] (upd H a (.lst xs)) Q E := by
  have ap := hP.ne_new nq
  refine ⟨p, a, xs, n, rfl, .inl (SqL.of upd_same), hx, hl, ap, hP.new nq, hn, fun v H' hv P' k' => k v H' hv P' ((Kp.new nq).trans k') (k' _ _ upd_same ap)⟩
theorem pick_at {xs : List V} (hP : Pen K H p n) (hn : n < 1000000) (ha : H a = some (.lst xs)) (ap : a ≠ p) (hx : xs ≠ []) (hl : xs.length ≤ 1000) (k : ∀ v H', v ∈ xs → Pen K H' p (n + 1) → Kp p H H' → Q v H') :
    spPick K [.ref p, .ref a] H Q E := ⟨p, a, xs, n, rfl, .inl (SqL.of ha), hx, hl, ap, hP, hn, k⟩
end

/-! ### reprs of lists of truth values -/
def okBools (bs : List Bool) : Bool := (PyData.list (bs.map PyData.bool)).showable && (!(PyData.list (bs.map PyData.bool)).hasDict && (decide ((PyData.list (bs.map PyData.bool)).depth ≤ 60) && decide ((PyData.list (bs.map PyData.bool)).shown.length ≤ sizeLine)))
theorem dpBools {K : PySem.W.Frag} {H : Hp} : ∀ bs : List Bool, DpAll K H (bs.map V.bl) (bs.map PyData.bool)
  | [] => .nil
  | b :: bs => .cons (.bl b) (dpBools bs)
theorem repr_bools {K : PySem.W.Frag} {H : Hp} {Q : VK} {a : Addr} {bs : List Bool} (h : SqL K H a (bs.map V.bl)) (c : okBools bs = true) (k : Q (.str (PyData.list (bs.map PyData.bool)).shown) H) : rRepr K [.ref a] H Q := by
  unfold okBools at c
  simp only [Bool.and_eq_true, Bool.not_eq_true', decide_eq_true_eq] at c
  exact ⟨_, _, rfl, .lst h (dpBools bs), c.1, c.2.1, c.2.2.1, c.2.2.2, k⟩

/-! ### greatest common divisors -/
def gc (t b : Int) : Int := (Nat.gcd t.natAbs b.natAbs : Nat)
theorem gc_pos {t b : Int} (h : 0 < b) : 0 < gc t b := by
  have := Nat.gcd_pos_of_pos_right t.natAbs (show 0 < b.natAbs by omega)
  unfold gc
  omega
theorem gc_le {t b : Int} (h : 0 < b) : gc t b ≤ b := by
  have := Nat.gcd_le_right t.natAbs (show 0 < b.natAbs by omega)
  unfold gc
  omega
theorem gc_top {t b : Int} : gc t b * (t / gc t b) = t := Int.mul_ediv_cancel' (Int.ofNat_dvd_left.mpr (Nat.gcd_dvd_left _ _))
theorem gc_bot {t b : Int} : gc t b * (b / gc t b) = b := Int.mul_ediv_cancel' (Int.ofNat_dvd_left.mpr (Nat.gcd_dvd_right _ _))
theorem go_gcd {H : Hp} {Q : VK} {t b : Int} (k : Q (.int (gc t b)) H) : rGcd [.int t, .int b] H Q := ⟨t, b, rfl, k⟩
end CT
namespace CT
open PySem PySem.Spec PyProof.Rows L2
open He (ga ma fAd)

/-! ### exceptions with fields of their own -/
def spEx1 (C : Addr) (f : Str) : Sp := fun vs H Q _ => ∃ (a : Addr) (v : V), vs = [.ref a, v] ∧ H a = some (exo a C none) ∧
  ∀ dx, H dx = none → dx ≠ a → Q .non (upd (upd H dx (exd dx [(f, v)])) a (exo a C (some dx)))
def spEx2 (C : Addr) (f g : Str) : Sp := fun vs H Q _ => ∃ (a : Addr) (v w : V), vs = [.ref a, v, w] ∧ H a = some (exo a C none) ∧
  ∀ dx, H dx = none → dx ≠ a → Q .non (upd (upd H dx (exd dx [(g, w), (f, v)])) a (exo a C (some dx)))
/-- C(..) that is raised -/
def Ex (P : Program) (w : World) (K : PySem.W.Frag) (mg : Str → Option Value) (base : Heap) (k : Nat) (x : Str) (sp : Sp) : Prop :=
  ∃ fd ps, FnOk P w K mg base CX0 k (ma K (ga K x) "__init__") fd ps sp ∧ ExoC K (ga K x) (ma K (ga K x) "__init__") ∧ mg x = some (.ref (ga K x)) ∧ Binds K fd ps []
section
variable {X : Cx} {j k : Nat} {x : Str} {sp : Sp} {p pos : Pos} {e : Expr} {es : List Expr} {ta : TA}
theorem pmk_ex (c : Ex X.prog X.w X.K X.mg X.base k x sp) (hr : Room j X.A) (hk : k + 1 ≤ j) (ha : PA X (e :: es) ta) (hg : Gl X x := by rfl)
    (hdb : (x == ("__debug__" : Str)) = false := by decide) (he : starEach (e :: es) X.env = (false, eval e X.env) :: starEach es X.env := by rfl) (hpl : (backTo pos (starEach es X.env)).any (·.1) = false := by rfl) :
    PMk X (.Call (.Name x p) (e :: es) [] pos) (tMkO (ga X.K x) sp [] ta) := by
  obtain ⟨fd, ps, F, T, hm, b⟩ := c
  exact pmk_oex T.oex T.init T.fn F (hr.mono hk) b .nil (fun _ _ _ _ _ _ _ h => h.elim) hg hm ha hdb he hpl
end
section
variable {σ : St} {H : Hp} {K : PySem.W.Frag}
def rMkO (C : Addr) (sp : Sp) (vs : List V) (H1 : Hp) (Q : XK) : Prop := vs.length ≤ 1000 ∧ ∀ a, H1 a = none → sp (.ref a :: (vs ++ [])) (upd H1 a (exo a C none))
  (fun v H2 => v = .non ∧ ∃ (d : Addr) (fs : List (Str × V)), H2 a = some (exo a C (some d)) ∧ H2 d = some (exd d fs) ∧ H1 d = none ∧ Q (.ref C) (some d) (upd (del H2 a) d (.xd fs))) (fun _ _ _ => False)
theorem go_mko {C : Addr} {sp : Sp} {ta : TA} {Q : XK} (k : ta σ H fun vs H1 => rMkO C sp vs H1 Q) : tMkO C sp [] ta σ H Q := k
theorem made_heap {a d : Addr} {u1 u2 u3 : HO} (na : H a = none) : upd (del (upd (upd (upd H a u1) d u2) a u3) a) d (.xd fs) = upd H d (.xd fs) := by
  funext b
  unfold upd del
  by_cases hb : b = d
  · rw [if_pos hb, if_pos hb]
  · rw [if_neg hb, if_neg hb]
    by_cases ha : b = a
    · rw [if_pos ha, ha, na]
    · rw [if_neg ha]
      simp only [if_neg ha, if_neg hb]
theorem go_ex1 {C : Addr} {f : Str} {v : V} {Q : XK} (k : ∀ d, H d = none → Q (.ref C) (some d) (upd H d (.xd [(f, v)]))) : rMkO C (spEx1 C f) [v] H Q := by
  refine ⟨Nat.le_of_ble_eq_true rfl, fun a na => ⟨a, v, rfl, upd_same, fun dx nd ne => ⟨rfl, dx, _, upd_same, (upd_ne ne).trans upd_same, ?_, ?_⟩⟩⟩
  · rw [upd_ne ne] at nd
    exact nd
  · rw [upd_ne ne] at nd
    rw [made_heap na]
    exact k dx nd
theorem go_ex2 {C : Addr} {f g : Str} {v w : V} {Q : XK} (k : ∀ d, H d = none → Q (.ref C) (some d) (upd H d (.xd [(g, w), (f, v)]))) : rMkO C (spEx2 C f g) [v, w] H Q := by
  refine ⟨Nat.le_of_ble_eq_true rfl, fun a na => ⟨a, v, w, rfl, upd_same, fun dx nd ne => ⟨rfl, dx, _, upd_same, (upd_ne ne).trans upd_same, ?_, ?_⟩⟩⟩
  · rw [upd_ne ne] at nd
    exact nd
  · rw [upd_ne ne] at nd
    rw [made_heap na]
    exact k dx nd
def rOst (K : PySem.W.Frag) (f : Str) (y x : V) (H : Hp) (R : Hp → Prop) : Prop := ∃ a C : Addr, x = .ref a ∧ OexC K C ∧ PySem.W.findIn K (.ref C) f = some none ∧
  ((H a = some (exo a C none) ∧ ∀ dx, H dx = none → dx ≠ a → R (upd (upd H dx (exd dx [(f, y)])) a (exo a C (some dx)))) ∨
    ∃ (dx : Addr) (fs : List (Str × V)), H a = some (exo a C (some dx)) ∧ H dx = some (exd dx fs) ∧ fs.length ≤ 900 ∧ R (upd H dx (exd dx ((f, y) :: fs))))
theorem go_ost {f : Str} {to te : TE} {D : Ends} (k : te σ H fun y H1 => to σ H1 fun x H2 => rOst K f y x H2 (D.nx σ)) : tOst K f to te D σ H := k
theorem go_ost1 {a C : Addr} {f : Str} {y : V} {R : Hp → Prop} (c : OexC K C) (n : NoAttr K C f) (h : H a = some (exo a C none)) (k : ∀ dx, H dx = none → dx ≠ a → R (upd (upd H dx (exd dx [(f, y)])) a (exo a C (some dx)))) :
    rOst K f y (.ref a) H R := ⟨a, C, rfl, c, n, .inl ⟨h, k⟩⟩
theorem go_ost2 {a C dx : Addr} {f g : Str} {v y : V} {R : Hp → Prop} (c : OexC K C) (n : NoAttr K C f) (ne : dx ≠ a) (k : R (upd (upd H dx (exd dx [(f, y), (g, v)])) a (exo a C (some dx)))) :
    rOst K f y (.ref a) (upd (upd H dx (exd dx [(g, v)])) a (exo a C (some dx))) R := by
  refine ⟨a, C, rfl, c, n, .inr ⟨dx, [(g, v)], upd_same, (upd_ne ne).trans upd_same, Nat.le_of_ble_eq_true rfl, ?_⟩⟩
  have e : upd (upd (upd H dx (exd dx [(g, v)])) a (exo a C (some dx))) dx (exd dx [(f, y), (g, v)]) = upd (upd H dx (exd dx [(f, y), (g, v)])) a (exo a C (some dx)) := by
    funext b
    unfold upd
    by_cases hb : b = dx
    · rw [if_pos hb, hb, if_neg ne, if_pos rfl]
    · rw [if_neg hb, if_neg hb, if_neg hb]
  rw [e]
  exact k
end

/-! ### C(..) with defaults -/
def MkeD (P : Program) (w : World) (K : PySem.W.Frag) (mg : Str → Option Value) (base : Heap) (CX : CXT) (k : Nat) (x : Str) (sp : Sp) (dvs : List V) : Prop :=
  ∃ f fd ps ds, FnOk P w K mg base CX k f fd ps sp ∧ Mk K (ga K x) f ∧ mg x = some (.ref (ga K x)) ∧ Binds K fd ps ds ∧ Vals dvs ds
theorem pe_mked {X : Cx} {CX : CXT} {j k : Nat} {x : Str} {sp : Sp} {E : XK} {p pos : Pos} {e : Expr} {es : List Expr} {t : TA} {dvs : List V} (c : MkeD X.prog X.w X.K X.mg X.base CX k x sp dvs) (hr : Room j X.A) (hk : k + 1 ≤ j) (hx : Passes CX X E) (ha : PA X (e :: es) t) (hg : Gl X x := by rfl)
    (hdb : (x == ("__debug__" : Str)) = false := by decide) (he : starEach (e :: es) X.env = (false, eval e X.env) :: starEach es X.env := by rfl)
    (hpl : (backTo pos (starEach es X.env)).any (·.1) = false := by rfl) : PE X (.Call (.Name x p) (e :: es) [] pos) (tMake (ga X.K x) sp dvs E t) := by
  obtain ⟨f, fd, ps, ds, F, M, hm, b, v⟩ := c
  exact pe_make M F (hr.mono hk) hg hm b v hx ha hdb he hpl
def rMakeD (C : Addr) (sp : Sp) (dvs : List V) (E : XK) (vs : List V) (H1 : Hp) (Q : VK) : Prop := ∀ x dx, H1 x = none → H1 dx = none → dx ≠ x → sp (.ref x :: (vs ++ dvs)) (upd (upd H1 dx (.own x)) x (.ins C dx [])) (fun v H2 => v = .non ∧ Q (.ref x) H2) E
theorem go_maked {σ : L2.St} {H : Hp} {Q : VK} {C : Addr} {sp : Sp} {dvs : List V} {E : XK} {t : TA} (k : t σ H fun vs H1 => rMakeD C sp dvs E vs H1 Q) : tMake C sp dvs E t σ H Q := k

/-! ### what a raising def promises -/
/-- an error of the class x with one field -/
def Er1 (K : PySem.W.Frag) (x f : Str) (v : V) (H : Hp) (E : XK) : Prop := ∀ d H', H d = none → Same H H' → H' d = some (.xd [(f, v)]) → E (.ref (ga K x)) (some d) H'
def Er2 (K : PySem.W.Frag) (x f g : Str) (v w : V) (H : Hp) (E : XK) : Prop := ∀ d H', H d = none → Same H H' → H' d = some (.xd [(g, w), (f, v)]) → E (.ref (ga K x)) (some d) H'
theorem Er1.at {K : PySem.W.Frag} {x f : Str} {v : V} {H : Hp} {E : XK} (h : Er1 K x f v H E) : ∀ d, H d = none → E (.ref (ga K x)) (some d) (upd H d (.xd [(f, v)])) := fun d n => h d _ n (Same.new n) upd_same
theorem Er2.at {K : PySem.W.Frag} {x f g : Str} {v w : V} {H : Hp} {E : XK} (h : Er2 K x f g v w H E) : ∀ d, H d = none → E (.ref (ga K x)) (some d) (upd H d (.xd [(g, w), (f, v)])) := fun d n => h d _ n (Same.new n) upd_same
end CT
namespace CT
open PySem PySem.Spec PyProof.Rows L2
open He (ga ma fAd)

/-! ### lambdas that are handed on: what their raising finds -/
/-- a wish may lean on the number of the slots -/
theorem takes_len {X : Cx} {W : WX} (t : Takes X W) : Takes X (fun cls d σ H => σ.length = X.N.length → W cls d σ H) :=
  fun u s' ⟨a, B, sI, pins, σ, H, cls, d, e, I, nb, up, sky, na, os, ag, w⟩ => t u s' ⟨a, B, sI, pins, σ, H, cls, d, e, I, nb, up, sky, na, os, ag, w I.len⟩
theorem slot_set {σ : St} {i n : Nat} {v : Option V} (h : σ.length = n) (hi : i < n) : (σ.set i v)[i]? = some v := by
  rw [List.getElem?_set]
  simp [h, hi]
theorem slot_past {σ : St} {i j : Nat} {v w : Option V} (h : σ[i]? = some v) (hij : j ≠ i) : (σ.set j w)[i]? = some v := by
  rw [List.getElem?_set, if_neg hij]
  exact h
def tAskT (f c' : Addr) (q : Str) (t : Hp → VK → Prop) : TE := fun σZ HZ Q => σZ[0]? = some (some (.ref f)) ∧ HZ c' = some (LamX.CodeO c' q) ∧ t HZ Q
def rXk (K : PySem.W.Frag) (f : Str) (x : V) (H1 : Hp) (Q : VK) : Prop := ∃ (a C dd : Addr) (fs : List (Str × V)) (v : V),
  x = .ref a ∧ H1 a = some (ExK (.ref C) (some dd) a) ∧ XfC K C ∧ PySem.W.findIn K (.ref C) f = some none ∧ H1 dd = some (.xd fs) ∧ fs.lookup f = some v ∧ Q v H1
theorem go_xk {K : PySem.W.Frag} {σ : St} {H : Hp} {Q : VK} {f : Str} {te : TE} (k : te σ H fun x H1 => rXk K f x H1 Q) : tXk K f te σ H Q := k
theorem go_xkx {K : PySem.W.Frag} {H : Hp} {Q : VK} {a C dd : Addr} {fs : List (Str × V)} {f : Str} {v : V} (h : H a = some (ExK (.ref C) (some dd) a)) (c : XfC K C) (n : NoAttr K C f) (hd : H dd = some (.xd fs)) (l : fs.lookup f = some v) (k : Q v H) :
    rXk K f (.ref a) H Q := ⟨a, C, dd, fs, v, rfl, h, c, n, hd, l, k⟩
theorem go_isx {K : PySem.W.Frag} {H : Hp} {Q : VK} {a D dd : Addr} {fs : List (Str × V)} {c : V} {cv : Value} {b : Bool} (h : H a = some (ExK (.ref D) (some dd) a)) (hd : H dd = some (.xd fs)) (C : ExcC K D) (k : ClsV c cv) (e : PySem.W.kitOne K (.ref D) cv = some b)
    (q : Q (.bl b) H) : rIsK K [.ref a, c] H Q := ⟨a, D, some dd, c, cv, b, rfl, h, (fun d z => by cases z; exact ⟨fs, hd⟩), C, k, e, q⟩
/-! ### tables of code objects under the pen -/
theorem codeO_lst {c : Addr} {q : Str} {xs : List V} : LamX.CodeO c q ≠ .lst xs := fun z => by
  unfold LamX.CodeO at z
  cases z
theorem tabs_kp {T : List (Addr × Str)} {p : Addr} {H H' : Hp} (t : LamX.Tabs T H) (k : Kp p H H') (h : ∃ xs, H p = some (.lst xs)) : LamX.Tabs T H' := fun r hr => by
  obtain ⟨xs, hp⟩ := h
  obtain ⟨ps, h1, h2, h3⟩ := t r hr
  refine ⟨ps, k _ _ h1 (fun z => by rw [z, hp] at h1; cases h1), h2, fun pos cv hc => ?_⟩
  obtain ⟨c, e1, e2⟩ := h3 pos cv hc
  refine ⟨c, e1, k _ _ e2 fun z => ?_⟩
  rw [z, hp] at e2
  exact codeO_lst (Option.some.inj e2).symm
theorem tabs_same {T : List (Addr × Str)} {H H' : Hp} (t : LamX.Tabs T H) (k : Same H H') : LamX.Tabs T H' := t.ext k
theorem pen_ext {K : PySem.W.Frag} {p : Addr} {n : Nat} {H H' : Hp} (h : Pen K H p n) (e : LamX.ExtN H H') : Pen K H' p n := by
  obtain ⟨c, ns, b, g, h1, h2, h3, h4, h5, h6⟩ := h
  refine ⟨c, ns, b, g, e _ _ h1 (fun _ z => by cases z), ?_, h3, h4, h5, h6⟩
  rcases h2 with (h | ⟨o, h⟩) | h
  · exact .inl (.inl (e _ _ h fun _ z => by cases z))
  · exact .inl (.inr ⟨o, e _ _ h fun _ z => by cases z⟩)
  · exact .inr h

/-! ### a def whose code object is named; the call with a lambda -/
section
variable {P : Program} {w : World} {K : PySem.W.Frag} {mg : Str → Option Value} {base : Heap} {x qual : Str} {params : Arguments} {body : List Stmt} {scope : Scope} {dvs : List V} {kws : List (Str × V)} {f : Addr} {fd : FuncData}
theorem _root_.L2.FunD.okGD {CX : CXT} {N ps : List Str} {k : Nat} {sp : Sp} (F : L2.FunD K x qual params body scope dvs kws f fd) (S : FnScope N ps scope) (len : ∀ vs H Q E, sp vs H Q E → vs.length = ps.length)
    (hbody : ∀ (A : Around) (outer : List Env) (s : Shared) (H : Hp) (vs : List V) (Q : VK) (E : XK), A.guards = some [] → Room k (A.deeper (envOfC qual scope s.heap.objs.size f fd.code)) → sp vs H Q E →
      ∃ t, PSs (cxOf CX P w K mg base N qual scope f fd.code A outer s H E) body t ∧ t { nx := fun _ H' => Q .non H', rt := Q } (start N vs) H) : FnOkG P w K mg base CX (k + 1) f fd ps sp := by
  obtain ⟨oc, od, dV, kV, doc, pm, an, cdv, ct, osl, rfl, lk, hcd, _, _⟩ := F.ex
  refine ⟨len, fun A outer s H args us vs Q E hr hgd e0 hb r hsp => ?_⟩
  exact LamX.run_ofS (N := N) lk hcd S hr e0 hb r (len _ _ _ _ hsp) fun hr' => hbody A outer s H vs Q E hgd hr' hsp
theorem code_of (F : L2.FunD K x qual params body scope dvs kws f (fdAt K f)) : (fdAt K f).code = .ref (codeAt K f) := by
  obtain ⟨oc, od, dV, kV, doc, pm, an, cdv, ct, osl, e, lk, hcd, _, _⟩ := F.ex
  have ec : (fdAt K f).code = cdv := by rw [e]
  unfold codeAt
  rw [ec]
  cases cdv <;> first
    | rfl
    | (simp [PySem.W.codeIn] at hcd)
end
theorem pe_lam {X : Cx} {T : List (Addr × Str)} {TT : (XK → Hp → VK → Prop) → Hp → VK → Prop} {x a : Str} {g c Pt : Addr} {k : Nat} {pg : Arguments} {bg : List Stmt} {sg : Scope} {fd : FuncData} {Ng : List Str}
    {params : Arguments} {body : Expr} {scope : Scope} {t : XK → TE} {p lpos pos : Pos} (hm : X.mg x = some (.ref g)) (F : L2.FunD X.K x x pg bg sg [] [] g fd) (b : L2.Binds X.K fd [a] []) (Sg : FnScope Ng [a] sg) (hNg : Ng[0]? = some a) (hva : Vis sg a)
    (hG : ∀ cdg, LamX.GivesTo X Ng x sg g cdg bg a (X.env.qual ++ "<lambda>") TT) (TB : LamX.TabB X.base X.mg c Pt) (hcode : X.env.code = .ref c) (hmT : (Pt, X.env.qual ++ "<lambda>") ∈ T) (hu : ∀ p ∈ T, p.1 = Pt → p.2 = X.env.qual ++ "<lambda>")
    (hr : Room (k + 2) X.A) (L : LamX.LamS X.env.scope scope) (hdef : defaultsOf params X.env = ([], []))
    (hbind : ∀ (q : Str) (cl : List (Str × Addr)) (pm cv ctv : Value), bindArgs (PySem.W.kla_fn "<lambda>" q params body scope cl pm cv ctv) ⟨[], []⟩ = pure [])
    (hbody : ∀ (A : Around) (outer : List Env) (s : Shared) (H : Hp) (E : XK) (f c' : Addr), Room k (A.deeper (LamX.lamEnv X scope s.heap.objs.size f c')) → PE (LamX.lamCx X A outer s H E scope f c') body (t E))
    (hg : Gl X x := by rfl) (hdb : (x == ("__debug__" : Str)) = false := by decide) (hd : (a == ("__debug__" : Str)) = false := by decide) (hcd : (a == ("__classdict__" : Str)) = false := by decide) :
    PE X (.Call (.Name x p) [.Lambda params body scope lpos] [] pos) (LamX.tLam T TT t) := by
  obtain ⟨oc, od, dV, kV, doc, pm, an, cdv, ct, osl, rfl, lk, hcd', _, _⟩ := F.ex
  exact LamX.pe_lamcall hg hm F.kp lk hcd' b Sg hNg hva (hG _) TB hcode hmT hu hr L hdef hbind hbody hdb hd hcd
theorem go_lam {σ : St} {H : Hp} {Q : VK} {T : List (Addr × Str)} {TT : (XK → Hp → VK → Prop) → Hp → VK → Prop} {t : XK → TE} (h : LamX.Tabs T H) (k : ∀ H1, LamX.ExtN H H1 → LamX.Tabs T H1 → TT (fun E H' Q' => t E σ H' Q') H1 Q) : LamX.tLam T TT t σ H Q := ⟨h, k⟩

/-! ### values of the built-in kinds -/
inductive OddV (H : Hp) : V → String → Prop
  | non : OddV H .non "NoneType"
  | int (i : Int) : OddV H (.int i) "int"
  | bl (b : Bool) : OddV H (.bl b) "bool"
  | str (x : Str) : OddV H (.str x) "str"
  | lst {a : Addr} {xs : List V} (e : H a = some (.lst xs)) : OddV H (.ref a) "list"
  | tup {a : Addr} {xs : List V} (e : H a = some (.tup xs)) : OddV H (.ref a) "tuple"
  | dK {a : Addr} {kvs : List (Key × V)} (e : H a = some (.dK kvs)) : OddV H (.ref a) "dict"
theorem OddV.ty {K : PySem.W.Frag} {H : Hp} {v : V} {n : String} (h : OddV H v n) : TyX K H v (.type n) := by
  cases h with
  | non => exact .base .non
  | int i => exact .base (.int i)
  | bl b => exact .base (.bl b)
  | str x => exact .base (.str x)
  | lst e => exact .base (.lst e)
  | tup e => exact .base (.tup e)
  | dK e => exact .base (.dK e)
theorem OddV.ext {H H' : Hp} {v : V} {n : String} (h : OddV H v n) (x : LamX.ExtN H H') : OddV H' v n := by
  cases h with
  | non => exact .non
  | int i => exact .int i
  | bl b => exact .bl b
  | str s => exact .str s
  | lst e => exact .lst (x _ _ e fun _ z => by cases z)
  | tup e => exact .tup (x _ _ e fun _ z => by cases z)
  | dK e => exact .dK (x _ _ e fun _ z => by cases z)
theorem OddV.same {H H' : Hp} {v : V} {n : String} (h : OddV H v n) (s : Same H H') : OddV H' v n := h.ext (LamX.ExtN.of s)

theorem OddV.put {H : Hp} {l : Addr} {xs ys : List V} {v : V} {n : String} (h : OddV H v n) (e : H l = some (.lst xs)) : OddV (upd H l (.lst ys)) v n := by
  cases h with
  | non => exact .non
  | int i => exact .int i
  | bl b => exact .bl b
  | str s => exact .str s
  | @lst a zs q =>
    by_cases z : a = l
    · subst z
      exact .lst upd_same
    · exact .lst ((upd_ne z).trans q)
  | @tup a zs q => exact .tup ((upd_ne (ne_of q e (by intro z; cases z))).trans q)
  | @dK a zs q => exact .dK ((upd_ne (ne_of q e (by intro z; cases z))).trans q)
/-! ### appending, repeating, data of texts -/
section
variable {K : PySem.W.Frag} {H : Hp} {Q : VK} {σ : St}
def rBMA (K : PySem.W.Frag) (t : TA) (σ : St) (x : V) (H1 : Hp) (Q : VK) : Prop := tyV K "list" x H1 ∧ t σ H1 fun xs H2 => rAppend x xs H2 Q
theorem go_bma {to : TE} {t : TA} (k : to σ H fun x H1 => rBMA K t σ x H1 Q) : tBM K "list" rAppend to t σ H Q := k
theorem go_bmax {l : Addr} {xs : List V} {t : TA} (h : SqL K H l xs) (k : t σ H fun vs H2 => rAppend (.ref l) vs H2 Q) : rBMA K t σ (.ref l) H Q := ⟨.inl ⟨rfl, xs, h⟩, k⟩
theorem go_app {l : Addr} {xs : List V} {y : V} (h : H l = some (.lst xs)) (sz : xs.length ≤ 100000) (k : Q .non (upd H l (.lst (xs ++ [y])))) : rAppend (.ref l) [y] H Q :=
  ⟨l, xs, y, rfl, rfl, h, Nat.lt_of_le_of_lt sz (by decide), k⟩
theorem go_appl {l : Addr} {xs ys : List V} {y : V} (h : H l = some (.lst xs)) (sz : xs.length ≤ 100000) (e : xs ++ [y] = ys) (k : Q .non (upd H l (.lst ys))) : rAppend (.ref l) [y] H Q := by
  subst e
  exact go_app h sz k
theorem go_dnew (k : ∀ p, H p = none → Q (.ref p) (upd H p (.dK []))) : tDNewK σ H Q := k
theorem go_rep {l : Addr} {n : Int} {xs ys : List V} (h : H l = some (.lst xs)) (n0 : 0 ≤ n) (n1 : n ≤ 1000) (sz : xs.length ≤ 1000) (e : (List.replicate n.toNat xs).flatten = ys) (k : ∀ p, H p = none → Q (.ref p) (upd H p (.lst ys))) : rRep (.ref l) (.int n) H Q := by
  subst e
  refine ⟨l, n, xs, rfl, rfl, h, by omega, by omega, ?_, k⟩
  exact Nat.le_trans (Nat.mul_le_mul sz (show n.toNat ≤ 1000 by omega)) (by decide)
theorem dpStrs : ∀ ns : List Str, DpAll K H (ns.map V.str) (ns.map PyData.str)
  | [] => .nil
  | n :: ns => .cons (.str n) (dpStrs ns)
theorem depthStrs : ∀ ns : List Str, PyData.depthAll (ns.map PyData.str) ≤ 1
  | [] => by decide
  | n :: ns => by
    have h := depthStrs ns
    show PyData.depthAll (PyData.str n :: ns.map PyData.str) ≤ 1
    rw [PyData.depthAll]
    have e : (PyData.str n).depth ≤ 1 := by rw [PyData.depth]; omega
    omega
theorem shStrs (ns : List Str) (lay : PyData.canLayAll0 (ns.map PyData.str) = true) : SeqAt.shaped (.list (ns.map PyData.str)) = true := by
  unfold SeqAt.shaped
  rw [PyData.canLay0, lay, PyData.depth]
  have := depthStrs ns
  simp
  omega
theorem eqvStrs : ∀ ns ms : List Str, PyData.eqvAll (ns.map PyData.str) (ms.map PyData.str) = decide (ns = ms)
  | [], [] => by rw [List.map_nil, PyData.eqvAll]; rfl
  | [], _ :: _ => by rw [List.map_nil, List.map_cons, PyData.eqvAll]; rfl
  | _ :: _, [] => by rw [List.map_nil, List.map_cons, PyData.eqvAll]; rfl
  | n :: ns, m :: ms => by
    rw [List.map_cons, List.map_cons, PyData.eqvAll, eqvStrs ns ms, PyData.eqv]
    by_cases h : n = m
    · by_cases h2 : ns = ms
      · subst h h2; simp
      · simp [h, h2]
    · simp [h]
theorem go_neStrs {a b : Addr} {ns ms : List Str} (ha : SqL K H a (ns.map V.str)) (hb : SqL K H b (ms.map V.str)) (la : PyData.canLayAll0 (ns.map PyData.str) = true) (lb : PyData.canLayAll0 (ms.map PyData.str) = true) (k : Q (.bl (!decide (ns = ms))) H) :
    rNeD K (.ref a) (.ref b) H Q := by
  refine ⟨_, _, .lst ha (dpStrs ns), .lst hb (dpStrs ms), shStrs ns la, shStrs ms lb, ?_⟩
  rw [PyData.eqv, eqvStrs]
  exact k
end
theorem tabs_nil {H : Hp} {P : Addr} {q : Str} (h : H P = some (.tbl #[])) : LamX.Tabs [(P, q)] H := fun p hp => by
  cases List.mem_singleton.mp hp
  exact LamX.TabS.nil h

/-! ### the end of a law over the Hook of systems -/
theorem walk_ofGE {l : PySem.W.OpenLaw} {n k : Nat} {q : Program} {loose : List Str} {XP : (Str → Option Value) → Heap → Prop} {YP : World → Heap → Prop} {d : DefRec}
    {CX : World → CXT} {x : Str} (hn : l.most = some n) (hn2 : n ≤ sizeLine) (hdf : d.params.defaults = []) (hr : Room k callerA)
    (F : ∀ (w : World) (mg : Str → Option Value) (fa : Addr) (h : Heap), YP w h → h.Ns mainGlobals mg → mg d.name = some (.ref fa) → ∃ K : PySem.W.Frag, K.In h ∧ LawAtG l w K (CX w) k n x mg fa h)
    (hCX : ∀ (w : World) (H : Hp) (s : Shared) (e : Value) (s' : Shared), CX w [] H s (fun _ _ _ => False) e s' → False) :
    PySem.W.WalkO q loose XP YP l.row.toRowW d [] (fun f vs => PySem.call f vs) := by
  refine Att.attach_callB hn hdf fun w s0 s1 mg mb fa o pm cd doc a vs ns G Y ho hd hcd hmg hobj hints hlen hbits hg => ?_
  obtain ⟨K, KX, fd, cs, sp, hT, nT, C, hb, hsp, hF⟩ := F w mg fa _ Y G.T.g hmg
  exact law_callG KX G.T.g G.T.b G.T.builtins G.T.nolimit hg hT nT C G.T.bmain hobj hints (Nat.le_trans hlen hn2) hr hF hb
    (fun H hH hS => hsp H a ns hlen hbits hH hS) fun H e s' => hCX w H s1 e s'
theorem tabs_of {y : Sys} {K : PySem.W.Frag} {h : Heap} (KX : K.In h) (c : SaysC y h K) :
    (∀ p ∈ y.tf.map fun q => tabAt K (q.adr K), h.get? p.2 = some { cls := .none, data := .fields #[] }) ∧ (∀ p ∈ y.tf.map fun q => tabAt K (q.adr K), K.lookup p.2 = none) ∧
    ∀ p ∈ y.tf.map fun q => tabAt K (q.adr K), PySem.W.CodeHd h p.1 p.2 := by
  refine ⟨fun p hp => ?_, fun p hp => ?_, fun p hp => ?_⟩
  · obtain ⟨q, hq, rfl⟩ := List.mem_map.mp hp
    exact c.empty q hq
  · obtain ⟨q, hq, rfl⟩ := List.mem_map.mp hp
    exact c.out q hq
  · obtain ⟨q, hq, rfl⟩ := List.mem_map.mp hp
    exact PySem.W.codeHd_of_K KX (c.hd q hq)
end CT
namespace CT
open PySem PySem.Spec PyProof.Rows L2
open He (ga ma fAd)

/-! ### the laws' pen, its cells by name -/
def Pn (H : Hp) (p c : Addr) (n : Nat) : Prop := ∃ (ns : List Int) (b g : Int), H p = some (.lst [.ref c, .int b, .int g]) ∧ H c = some (.lst (ns.map V.int)) ∧ ns.length ≤ 63 ∧ 0 ≤ b ∧ b ≤ n ∧ c ≠ p
def spPn (K : PySem.W.Frag) : Sp := fun vs H Q _ => ∃ (a : Addr) (ns : List Int), vs = [.ref a] ∧ SqL K H a (ns.map V.int) ∧ ∀ p c H', Pn H' p c 0 → Same H H' → H p = none → H c = none → Q (.ref p) H'
def spDr : Sp := fun vs H Q _ => ∃ (p c : Addr) (m : Int) (n : Nat), vs = [.ref p, .int m] ∧ 0 < m ∧ m < 1000000000000000000000000000000000000000000000000000000000000 ∧ Pn H p c n ∧ n < 1000000 ∧
  ∀ k H', 0 ≤ k → k < m → Pn H' p c (n + 1) → Kp p H H' → Q (.int k) H'
def spPk (K : PySem.W.Frag) : Sp := fun vs H Q _ => ∃ (p c a : Addr) (xs : List V) (n : Nat), vs = [.ref p, .ref a] ∧ (SqL K H a xs ∨ SqT K H a xs) ∧ xs ≠ [] ∧ xs.length ≤ 1000000 ∧ a ≠ p ∧ Pn H p c n ∧ n < 1000000 ∧
  ∀ v H', v ∈ xs → Pn H' p c (n + 1) → Kp p H H' → Q v H'

/-! ### chains of heaps, from the last one back -/
section
variable {K : PySem.W.Frag} {H H0 H1 H2 H' : Hp} {p q a c l : Addr} {n m : Nat} {o : HO}
theorem Pn.lst (h : Pn H p c n) : ∃ xs, H p = some (.lst xs) := by
  obtain ⟨_, _, _, hp, _⟩ := h
  exact ⟨_, hp⟩
theorem Pn.mono (h : Pn H p c n) (l : n ≤ m) : Pn H p c m := by
  obtain ⟨ns, b, g, h1, h2, h3, h4, h5, h6⟩ := h
  exact ⟨ns, b, g, h1, h2, h3, h4, by omega, h6⟩
theorem pn_sm (s : Same H H') (h : Pn H p c n) : Pn H' p c n := by
  obtain ⟨ns, b, g, h1, h2, h3, h4, h5, h6⟩ := h
  exact ⟨ns, b, g, s _ _ h1, s _ _ h2, h3, h4, h5, h6⟩
theorem pn_nw (e : H q = none) (h : Pn H p c n) : Pn (upd H q o) p c n := pn_sm (Same.new e) h
theorem pn_kp (k : Kp l H H') (h : Pn H p c n) (lp : l ≠ p) (lc : l ≠ c) : Pn H' p c n := by
  obtain ⟨ns, b, g, h1, h2, h3, h4, h5, h6⟩ := h
  exact ⟨ns, b, g, k _ _ h1 (Ne.symm lp), k _ _ h2 (Ne.symm lc), h3, h4, h5, h6⟩
theorem pn_xt (e : LamX.ExtN H H') (h : Pn H p c n) : Pn H' p c n := by
  obtain ⟨ns, b, g, h1, h2, h3, h4, h5, h6⟩ := h
  exact ⟨ns, b, g, e _ _ h1 (fun _ z => by cases z), e _ _ h2 (fun _ z => by cases z), h3, h4, h5, h6⟩
theorem kp_sm (s : Same H1 H2) (k : Kp p H H1) : Kp p H H2 := k.trans (CT.Same.kp s)
theorem kp_kp (s : Kp p H1 H2) (k : Kp p H H1) : Kp p H H2 := k.trans s
theorem kp_nw (e : H1 q = none) (k : Kp p H H1) : Kp p H (upd H1 q o) := k.trans (Kp.new e)
theorem kp_ot (s : Kp l H1 H2) (k : Kp p H H1) (e : H l = none) : Kp p H H2 := fun b o h nb => s b o (k b o h nb) fun z => by rw [z, e] at h; cases h
theorem sm_sm (s : Same H1 H2) (k : Same H H1) : Same H H2 := k.trans s
theorem sm_nw (e : H1 q = none) (k : Same H H1) : Same H (upd H1 q o) := k.trans (Same.new e)
theorem sm_ot (s : Kp l H1 H2) (k : Same H H1) (e : H l = none) : Same H H2 := fun b o h => s b o (k b o h) fun z => by rw [z, e] at h; cases h
theorem xt_sm (s : Same H1 H2) (k : LamX.ExtN H H1) : LamX.ExtN H H2 := k.trans (LamX.ExtN.of s)
theorem xt_xt (s : LamX.ExtN H1 H2) (k : LamX.ExtN H H1) : LamX.ExtN H H2 := k.trans s
theorem xt_ot (s : Kp l H1 H2) (k : LamX.ExtN H H1) (e : H l = none) : LamX.ExtN H H2 := fun b o h ht => s b o (k b o h ht) fun z => by rw [z, e] at h; cases h
/-- all but what stands at p, and the tables of code objects -/
def Kx (p : Addr) (H H' : Hp) : Prop := ∀ b o, H b = some o → b ≠ p → (∀ ps, o ≠ .tbl ps) → H' b = some o
theorem Kx.refl (p : Addr) (H : Hp) : Kx p H H := fun _ _ h _ _ => h
theorem kx_sm (s : Same H1 H2) (k : Kx p H H1) : Kx p H H2 := fun b o h nb ht => s b o (k b o h nb ht)
theorem kx_kp (s : Kp p H1 H2) (k : Kx p H H1) : Kx p H H2 := fun b o h nb ht => s b o (k b o h nb ht) nb
theorem kx_kx (s : Kx p H1 H2) (k : Kx p H H1) : Kx p H H2 := fun b o h nb ht => s b o (k b o h nb ht) nb ht
theorem kx_xt (s : LamX.ExtN H1 H2) (k : Kx p H H1) : Kx p H H2 := fun b o h nb ht => s b o (k b o h nb ht) ht
/-- nothing stands there, or a table -/
def NoT (H : Hp) (a : Addr) : Prop := ∀ o, H a = some o → ∃ ps, o = .tbl ps
theorem kx_ot (s : Kp l H1 H2) (k : Kx p H H1) (e : NoT H l) : Kx p H H2 := fun b o h nb ht => s b o (k b o h nb ht) fun z => by
  obtain ⟨ps, q⟩ := e o (z ▸ h)
  exact ht ps q
theorem xt_ot' (s : Kp l H1 H2) (k : LamX.ExtN H H1) (e : NoT H l) : LamX.ExtN H H2 := fun b o h ht => s b o (k b o h ht) fun z => by
  obtain ⟨ps, q⟩ := e o (z ▸ h)
  exact ht ps q
theorem nt_no (e : H a = none) : NoT H a := fun o q => by rw [e] at q; cases q
theorem nt_sm (s : Same H H') (e : NoT H' a) : NoT H a := fun o q => e o (s _ _ q)
theorem nt_xt (s : LamX.ExtN H H') (e : NoT H' a) : NoT H a := fun o q => by
  by_cases z : ∃ ps, o = .tbl ps
  · exact z
  · exact e o (s _ _ q fun ps w => z ⟨ps, w⟩)
theorem nt_pn (k : Kp p H H') (h : Pn H' p c n) (e : NoT H' a) : NoT H a := fun o q => by
  by_cases z : a = p
  · obtain ⟨ns, b, g, hp, _⟩ := h
    obtain ⟨ps, w⟩ := e _ (z ▸ hp)
    cases w
  · exact e o (k _ _ q z)
theorem nt_kx (k : Kx p H H') (h : Pn H' p c n) (e : NoT H' a) : NoT H a := fun o q => by
  by_cases z : a = p
  · obtain ⟨ns, b, g, hp, _⟩ := h
    obtain ⟨ps, w⟩ := e _ (z ▸ hp)
    cases w
  · by_cases y : ∃ ps, o = .tbl ps
    · exact y
    · exact e o (k _ _ q z fun ps w => y ⟨ps, w⟩)
theorem nt_kp {xs : List V} (k : Kp l H H') (h : H' l = some (.lst xs)) (e : NoT H' a) : NoT H a := fun o q => by
  by_cases z : a = l
  · obtain ⟨ps, w⟩ := e _ (z ▸ h)
    cases w
  · exact e o (k _ _ q z)
theorem kx_at (s : Kx p H H') (n : a ≠ p) (h : H a = some o) (t : ∀ ps, o ≠ .tbl ps) : H' a = some o := s a o h n t
theorem xt_at (s : LamX.ExtN H H') (h : H a = some o) (t : ∀ ps, o ≠ .tbl ps) : H' a = some o := s a o h t
theorem pn_ne_new (e : H a = none) (h : Pn H p c n) : a ≠ p := fun z => by
  obtain ⟨xs, hp⟩ := h.lst
  rw [z, hp] at e
  cases e
theorem pn_ne_newc (e : H a = none) (h : Pn H p c n) : a ≠ c := fun z => by
  obtain ⟨_, _, _, _, hc, _⟩ := h
  rw [z, hc] at e
  cases e
theorem pn_ne_o (e : H a = some o) (d : ∀ xs, o ≠ .lst xs) (h : Pn H p c n) : a ≠ p := fun z => by
  obtain ⟨xs, hp⟩ := h.lst
  rw [z, hp] at e
  cases e
  exact d _ rfl
theorem pn_ne_lst {xs : List V} (e : H a = some (.lst xs)) (d : ∀ c b g, xs ≠ [.ref c, .int b, .int g]) (h : Pn H p c n) : a ≠ p := fun z => by
  obtain ⟨_, b, g, hp, _⟩ := h
  rw [z, hp] at e
  cases e
  exact d c b g rfl
theorem ne_old (e : H l = none) (h : H a = some o) : a ≠ l := fun z => by rw [z, e] at h; cases h
theorem kp_none (k : Kp p H H') (h : ∃ xs, H p = some (.lst xs)) (hp : ∃ xs, H' p = some (.lst xs)) (e : H' a = none) : H a = none := by
  cases q : H a with
  | none => rfl
  | some o =>
    by_cases z : a = p
    · obtain ⟨xs, hp⟩ := hp
      rw [z, hp] at e
      cases e
    · rw [k a o q z] at e
      cases e
theorem no_pn (k : Kp p H H') (h : Pn H' p c n) (e : H' a = none) : H a = none := by
  cases q : H a with
  | none => rfl
  | some o =>
    by_cases z : a = p
    · obtain ⟨xs, hp⟩ := h.lst
      rw [z, hp] at e
      cases e
    · rw [k a o q z] at e
      cases e
theorem no_kp {xs : List V} (k : Kp l H H') (h : H' l = some (.lst xs)) (e : H' a = none) : H a = none := by
  cases q : H a with
  | none => rfl
  | some o =>
    by_cases z : a = l
    · rw [z, h] at e
      cases e
    · rw [k a o q z] at e
      cases e
theorem no_sm (s : Same H H') (e : H' a = none) : H a = none := by
  cases q : H a with
  | none => rfl
  | some o => rw [s a o q] at e; cases e
theorem kp_free (k : Kp p H H') (h : Pn H' p c n) (e : H' a = none) : H a = none := no_pn k h e
theorem draw_gm {Q : VK} {E : XK} {m : Int} (hP : Pn H p c n) (hn : n < 1000000) (h0 : 0 < m) (h1 : m < 1000000000000000000000000000000000000000000000000000000000000) (k : ∀ i H', 0 ≤ i → i < m → Pn H' p c (n + 1) → Kp p H H' → Q (.int i) H') :
    spDr ([.ref p, .int m] ++ []) H Q E := ⟨p, c, m, n, rfl, h0, h1, hP, hn, k⟩
theorem pick_gm {Q : VK} {E : XK} {xs : List V} (hP : Pn H p c n) (hn : n < 1000000) (ha : H a = some (.lst xs)) (ap : a ≠ p) (hx : xs ≠ []) (hl : xs.length ≤ 1000000) (k : ∀ v H', v ∈ xs → Pn H' p c (n + 1) → Kp p H H' → Q v H') :
    spPk K ([.ref p, .ref a] ++ []) H Q E := ⟨p, c, a, xs, n, rfl, .inl (SqL.of ha), hx, hl, ap, hP, hn, k⟩
theorem pickt_gm {Q : VK} {E : XK} {xs : List V} (hP : Pn H p c n) (hn : n < 1000000) (ha : H a = some (.tup xs)) (ap : a ≠ p) (hx : xs ≠ []) (hl : xs.length ≤ 1000000) (k : ∀ v H', v ∈ xs → Pn H' p c (n + 1) → Kp p H H' → Q v H') :
    spPk K ([.ref p, .ref a] ++ []) H Q E := ⟨p, c, a, xs, n, rfl, .inr (SqT.of ha), hx, hl, ap, hP, hn, k⟩
theorem tabs_pn {T : List (Addr × Str)} (k : Kp p H H') (h : Pn H p c n) (t : LamX.Tabs T H) : LamX.Tabs T H' := tabs_kp t k h.lst
theorem tabs_ls {T : List (Addr × Str)} {xs : List V} (k : Kp l H H') (h : H l = some (.lst xs)) (t : LamX.Tabs T H) : LamX.Tabs T H' := tabs_kp t k ⟨_, h⟩
theorem tabs_sm {T : List (Addr × Str)} (k : Same H H') (t : LamX.Tabs T H) : LamX.Tabs T H' := tabs_same t k
theorem sq_of {xs : List V} (h : H a = some (.lst xs)) : SqL K H a xs := SqL.of h
/-- a list is put in place -/
theorem put_gm {xs : List V} {R : Hp → Prop} (k : ∀ H', Kp l H H' → H' l = some (.lst xs) → R H') : R (upd H l (.lst xs)) := k _ Kp.put upd_same
end

theorem go_eqI {H : Hp} {Q : VK} {x y : Int} (k : Q (.bl (decide (x = y))) H) : rEq (.int x) (.int y) H Q := by
  refine ⟨rfl, ?_⟩
  have e : decide (V.int x = V.int y) = decide (x = y) := decide_eq_decide.mpr (by simp)
  rw [e]
  exact k
theorem go_neI {H : Hp} {Q : VK} {x y : Int} (k : Q (.bl (!decide (x = y))) H) : rNe (.int x) (.int y) H Q := by
  refine ⟨rfl, ?_⟩
  have e : decide (V.int x = V.int y) = decide (x = y) := decide_eq_decide.mpr (by simp)
  rw [e]
  exact k

section
variable {H : Hp} {Q : VK} {a : Addr}
theorem isN_ref (k : Q (.bl false) H) : rIsN (.ref a) .non H Q := ⟨rfl, k⟩
theorem isN_non (k : Q (.bl true) H) : rIsN .non .non H Q := ⟨rfl, k⟩
theorem isN_int {i : Int} (k : Q (.bl false) H) : rIsN (.int i) .non H Q := ⟨rfl, k⟩
theorem isN_str {x : Str} (k : Q (.bl false) H) : rIsN (.str x) .non H Q := ⟨rfl, k⟩
theorem isN_bl {b : Bool} (k : Q (.bl false) H) : rIsN (.bl b) .non H Q := ⟨rfl, k⟩
theorem notN_ref (k : Q (.bl true) H) : rNotN (.ref a) .non H Q := ⟨rfl, k⟩
theorem notN_non (k : Q (.bl false) H) : rNotN .non .non H Q := ⟨rfl, k⟩
theorem notN_int {i : Int} (k : Q (.bl true) H) : rNotN (.int i) .non H Q := ⟨rfl, k⟩
theorem notN_str {x : Str} (k : Q (.bl true) H) : rNotN (.str x) .non H Q := ⟨rfl, k⟩
theorem notN_bl {b : Bool} (k : Q (.bl true) H) : rNotN (.bl b) .non H Q := ⟨rfl, k⟩
end

section
variable {K : PySem.W.Frag} {H : Hp} {Q : VK} {σ : St} {a l : Addr}
theorem app_gm {xs ys : List V} {y : V} (h : H l = some (.lst xs)) (sz : xs.length ≤ 100000) (e : xs ++ [y] = ys) (k : ∀ H', Kp l H H' → H' l = some (.lst ys) → Q .non H') : rAppend (.ref l) [y] H Q := go_appl h sz e (k _ Kp.put upd_same)
theorem rep_gm {n : Int} {xs ys : List V} (h : H l = some (.lst xs)) (n0 : 0 ≤ n) (n1 : n ≤ 1000) (sz : xs.length ≤ 1000) (e : (List.replicate n.toNat xs).flatten = ys) (k : ∀ p H', H p = none → Same H H' → H' p = some (.lst ys) → Q (.ref p) H') : rRep (.ref l) (.int n) H Q :=
  go_rep h n0 n1 sz e fun p n => k p _ n (Same.new n) upd_same
theorem dnew_gm (k : ∀ p H', H p = none → Same H H' → H' p = some (.dK []) → Q (.ref p) H') : tDNewK σ H Q := go_dnew fun p n => k p _ n (Same.new n) upd_same
theorem sl_gm {lo hi : Option Int} {xs : List V} (h : SqL K H a xs) (k : ∀ p H', H p = none → Same H H' → H' p = some (.lst (cutV xs lo hi)) → Q (.ref p) H') : rSlL K (.ref a) lo hi H Q := newSl h rfl k
theorem lstof_gm {ys : List V} (h : SqL K H a ys ∨ SqT K H a ys) (k : ∀ l H', H l = none → Same H H' → H' l = some (.lst ys) → Q (.ref l) H') : rLstOf K [.ref a] H Q := newLstOf h k
theorem cat_gm {b : Addr} {xs ys zs : List V} (ha : H a = some (.lst xs)) (hb : H b = some (.lst ys)) (e : xs ++ ys = zs) (sz : zs.length ≤ 100000) (k : ∀ l H', H l = none → Same H H' → H' l = some (.lst zs) → Q (.ref l) H') : rCat (.ref a) (.ref b) H Q :=
  newCat ha hb sz e k
end

section
variable {K : PySem.W.Frag} {H H' : Hp} {Q : VK} {v : V} {n : String} {l a b : Addr}
theorem go_eqStrs {ns ms : List Str} (ha : SqL K H a (ns.map V.str)) (hb : SqL K H b (ms.map V.str)) (la : PyData.canLayAll0 (ns.map PyData.str) = true) (lb : PyData.canLayAll0 (ms.map PyData.str) = true) (k : Q (.bl (decide (ns = ms))) H) :
    rEqD K (.ref a) (.ref b) H Q := by
  refine ⟨_, _, .lst ha (dpStrs ns), .lst hb (dpStrs ms), shStrs ns la, shStrs ms lb, ?_⟩
  rw [PyData.eqv, eqvStrs]
  exact k
theorem odd_sm (s : Same H H') (h : OddV H v n) : OddV H' v n := h.same s
theorem odd_xt (s : LamX.ExtN H H') (h : OddV H v n) : OddV H' v n := h.ext s
theorem odd_new {H0 : Hp} (e : H0 l = none) (h : OddV H0 v n) : v ≠ .ref l := by
  rintro rfl
  cases h with
  | lst q => rw [e] at q; cases q
  | tup q => rw [e] at q; cases q
  | dK q => rw [e] at q; cases q
theorem odd_kp (k : Kp l H H') (h : OddV H v n) (d : v ≠ .ref l) : OddV H' v n := by
  cases h with
  | non => exact .non
  | int i => exact .int i
  | bl b => exact .bl b
  | str s => exact .str s
  | lst q => exact .lst (k _ _ q fun z => d (by rw [z]))
  | tup q => exact .tup (k _ _ q fun z => d (by rw [z]))
  | dK q => exact .dK (k _ _ q fun z => d (by rw [z]))
end

/-! ### numbers within bounds -/
theorem mulB {i j B c : Int} (h1 : -B ≤ i) (h2 : i ≤ B) (h3 : 0 ≤ j) (h4 : j ≤ c) : -(B * c) ≤ i * j ∧ i * j ≤ B * c := by
  have hB : 0 ≤ B := by omega
  have a : B * j ≤ B * c := Int.mul_le_mul_of_nonneg_left h4 hB
  have b : i * j ≤ B * j := Int.mul_le_mul_of_nonneg_right h2 h3
  have d : -B * j ≤ i * j := Int.mul_le_mul_of_nonneg_right h1 h3
  rw [Int.neg_mul] at d
  omega
theorem divB {t b B : Int} (h : 0 < b) (h1 : -B ≤ t) (h2 : t ≤ B) : -B ≤ t / b ∧ t / b ≤ B := by
  have hB : 0 ≤ B := by omega
  have a : t / b ≤ B := by
    refine Int.ediv_le_of_le_mul h ?_
    have : B * 1 ≤ B * b := Int.mul_le_mul_of_nonneg_left (by omega) hB
    omega
  have c : -B ≤ t / b := by
    refine (Int.le_ediv_iff_mul_le h).mpr ?_
    have : B * 1 ≤ B * b := Int.mul_le_mul_of_nonneg_left (by omega) hB
    rw [Int.neg_mul]
    omega
  exact ⟨c, a⟩
theorem mem_range {xs : List V} {v : V} (lo hi : Int) (h : v ∈ xs) (c : (xs.all fun v => match v with | .int m => decide (lo ≤ m) && decide (m ≤ hi) | _ => false) = true) : ∃ m, v = .int m ∧ lo ≤ m ∧ m ≤ hi := by
  have z := List.all_eq_true.mp c v h
  cases v with
  | int m =>
    simp only [Bool.and_eq_true, decide_eq_true_eq] at z
    exact ⟨m, rfl, z.1, z.2⟩
  | _ => cases z
end CT
namespace CT
open PySem PySem.Spec PyProof.Rows L2
open He (ga ma fAd)

/-! ### a class's own unary operators, abs, bool, str, len, in -/
section
variable {prog : Program} {w : World} {A : Around} {E : Value → Shared → Prop} {s : Shared} {K : PySem.W.Frag} {x C f L : Addr} {ox : Obj} {od : Option Obj} {h0 : Heap} {m : Str → Option Value}
theorem abs_K {Q : Value → Shared → Prop} (FF : PyProof.Rows.Fr h0 L s.heap m) (X0 : K.In h0) (I : PySem.W.InstAt s.heap x ox C od) (hs : PySem.W.findIn K (.ref C) "__abs__" = some (some (.ref f))) (hf : PySem.W.isFn K (.ref f) = true)
    (h : wpAny (model prog w) A.in1 (call (.ref f) [.ref x]) Q E s) : wpAny (model prog w) A (call (.builtin "abs") [.ref x]) Q E s := by
  refine Calls.call_function_entry kind_abs plain_abs entry_abs (args_abs _) ?_
  unfold Builtin.«abs»
  refine wpAny_bind (m := oneArg "abs" _) (wpAny_pure ?_)
  refine wpAny_bind (m := callSpecial? (.ref x) (Str.ofString "__abs__")) (PySem.W.special_fn (X0.keeps FF.keep) I hs (beq_iff_eq.mp hf) (wpAny_mono h (fun r s' hr => ?_) fun _ _ y => y))
  dsimp only
  exact wpAny_pure ⟨_, rfl, hr⟩
theorem bool_K {Q : Value → Shared → Prop} (FF : PyProof.Rows.Fr h0 L s.heap m) (X0 : K.In h0) (I : PySem.W.InstAt s.heap x ox C od) (hs : PySem.W.findIn K (.ref C) "__bool__" = some (some (.ref f))) (hf : PySem.W.isFn K (.ref f) = true)
    (h : wpAny (model prog w) A.in1.in1 (call (.ref f) [.ref x]) (PySem.W.BoolBack fun b s' => Q (.bool b) s') E s) : wpAny (model prog w) A (call (.type "bool") [.ref x]) Q E s := by
  refine callType_codes (T := "bool") (Bi := Builtin.«object.__init__») (Q₁ := fun r s₁ => ∃ b, r = .bool b ∧ Q r s₁) PySem.F.called_bool (PySem.F.typeCall_bool_1 _) PySem.F.entry_object_init ?_ ?_
  · refine codeAny_of_tree ?_
    show wpAny _ A.in1.in1 (do checkBuiltinCall "bool.__new__" ⟨[.type "bool", .ref x], []⟩; again (.builtin "bool.__new__" ⟨[.type "bool", .ref x], []⟩)) _ _ s
    refine wpAny_bind (wpAny_of_eq (PySem.F.newCall_bool_1 _) (wpAny_pure ⟨plainId_quiet (by decide +kernel) _, codeAny_builtin PySem.F.entry_bool_new ?_⟩))
    rw [Around.under_plainId (by decide +kernel) _]
    obtain ⟨hp, g, d, tk, os⟩ := s
    have f1 := PySem.F.conv_sub_bool
    have tr : ∀ {R : Bool → Shared → Prop} {E' : Value → Shared → Prop}, wpAny (model prog w) A.in1.in1 (call (.ref f) [.ref x]) (PySem.W.BoolBack R) E' ⟨hp, g, d, tk, os⟩ → wpAny (model prog w) A.in1.in1 (truthy (.ref x)) R E' ⟨hp, g, d, tk, os⟩ :=
      fun z => PySem.W.truthy_K FF X0 I hs hf z
    repeat (any_goals (first | assumption | (with_reducible refine tr (wpAny_mono h (fun r s' hr => ?_) (fun _ _ y => y))) | wp_step))
    cases r <;> first | exact hr.elim | exact wpAny_pure ⟨_, rfl, hr⟩
  · rintro obj s₁ ⟨b, rfl, hq⟩
    exact ⟨rfl, PySem.F.args_object_init_2 _ _, object_init_meets PySem.F.called_bool.init.lookup PySem.F.called_bool.made (by decide) prog w A.in1 _ s₁ ⟨rfl, rfl, hq⟩⟩
end
/-- f(x) by x's own method -/
def rOwn1 (C : Addr) (sp : Sp) (E : XK) : V → Hp → VK → Prop := fun x H Q => ∃ a dx fs, x = .ref a ∧ H a = some (.ins C dx fs) ∧ sp [.ref a] H Q E
def rOwnA (C : Addr) (sp : Sp) (E : XK) : List V → Hp → VK → Prop := fun xs H Q => ∃ a dx fs, xs = [.ref a] ∧ H a = some (.ins C dx fs) ∧ sp [.ref a] H Q E
def rOwnB (C : Addr) (sp : Sp) (E : XK) : List V → Hp → VK → Prop := fun xs H Q => ∃ a dx fs, xs = [.ref a] ∧ H a = some (.ins C dx fs) ∧ sp [.ref a] H (fun v H' => ∃ b, v = .bl b ∧ Q (.bl b) H') E
def rOwnS (C : Addr) (sp : Sp) (E : XK) : List V → Hp → VK → Prop := fun xs H Q => ∃ a dx fs, xs = [.ref a] ∧ H a = some (.ins C dx fs) ∧ sp [.ref a] H (fun v H' => ∃ z, v = .str z ∧ Q (.str z) H') E
def rOwnN (C : Addr) (sp : Sp) (E : XK) : List V → Hp → VK → Prop := fun xs H Q => ∃ a dx fs, xs = [.ref a] ∧ H a = some (.ins C dx fs) ∧ sp [.ref a] H (fun v H' => ∃ n : Int, v = .int n ∧ 0 ≤ n ∧ n < 2 ^ 63 ∧ Q (.int n) H') E
section
variable {X : Cx} {CX : CXT} {j k : Nat} {C : Addr} {sp : Sp} {E : XK}
/-- a def is called somewhat deeper, its wishes those of the place -/
theorem run_at {A' : Around} {ps : List Str} {f : Addr} {fd : FuncData} {pins : List (Addr × Obj)} {σ : L2.St} {H : Hp} {s : Shared} {Q : VK} {us : List Value} {vs : List V} (F : FnOk X.prog X.w X.K X.mg X.base CX k f fd ps sp) (hb : Binds X.K fd ps []) (hr : Room k A')
    (e0 : Env0 X.prog X.w X.K X.mg X.base A' X.stack s H) (hx : Passes CX X E) (I : Inv X pins σ H s) (r : Vals vs us) (h : sp vs H Q E) : wpAny (model X.prog X.w) A' (call (.ref f) us) (EP X pins σ Q) X.xe s := by
  have hl := F.len _ _ _ _ h
  refine wpAny_call (codeAny_mono (F.run A' X.stack s H ⟨us, []⟩ us vs _ E hr e0 (by
    have z := hb s us I.kIn (by rw [List.append_nil, ← r.length]; exact hl)
    simpa using z) r h) fun r s' hq => ?_)
  cases r with
  | error e => exact hx pins σ H s e s' I hq
  | ok fl =>
    cases fl with
    | ret w => exact I.after hq
    | next => exact False.elim hq
    | brk => exact False.elim hq
    | cont => exact False.elim hq
theorem un_neg (c : Op X.prog X.w X.K X.mg X.base CX k C "__neg__" sp) (hr : Room j X.A) (hk : k ≤ j) (hx : Passes CX X E) : UnR X (unaryOp .USub) (rOwn1 C sp E) := by
  obtain ⟨f, fd, ps, F, h1, h2, b⟩ := c
  intro pins s σ H x v Q I rx h
  obtain ⟨a, dx, fs, rfl, ha, q⟩ := h
  cases (show v = Value.ref a from rx)
  obtain ⟨mA, J, _⟩ := ins_get I.hok ha
  obtain ⟨od, J, _⟩ := J.look
  obtain ⟨m, hF⟩ := I.fr
  exact PySem.W.ksp_neg hF I.ok.mod.kin J h1 h2 (run_at F b (hr.mono hk) I.env0 hx I (us := [.ref a]) (vs := [.ref a]) (.cons rfl .nil) q)
theorem call_absO (c : Op X.prog X.w X.K X.mg X.base CX k C "__abs__" sp) (hr : Room j X.A) (hk : k + 1 ≤ j) (hx : Passes CX X E) : CallR X (.builtin "abs") (rOwnA C sp E) := by
  obtain ⟨f, fd, ps, F, h1, h2, b⟩ := c
  intro pins s σ H xs us Q I rx h
  obtain ⟨a, dx, fs, rfl, ha, q⟩ := h
  obtain ⟨u, rfl, ru⟩ := vals1 rx
  cases (show u = Value.ref a from ru)
  obtain ⟨mA, J, _⟩ := ins_get I.hok ha
  obtain ⟨od, J, _⟩ := J.look
  obtain ⟨m, hF⟩ := I.fr
  exact abs_K hF I.ok.mod.kin J h1 h2 (run_at F b (hr.mono hk).in1 I.env0.in1 hx I (us := [.ref a]) (vs := [.ref a]) (.cons rfl .nil) q)
theorem call_boolO (c : Op X.prog X.w X.K X.mg X.base CX k C "__bool__" sp) (hr : Room j X.A) (hk : k + 2 ≤ j) (hx : Passes CX X E) : CallR X (.type "bool") (rOwnB C sp E) := by
  obtain ⟨f, fd, ps, F, h1, h2, b⟩ := c
  intro pins s σ H xs us Q I rx h
  obtain ⟨a, dx, fs, rfl, ha, q⟩ := h
  obtain ⟨u, rfl, ru⟩ := vals1 rx
  cases (show u = Value.ref a from ru)
  obtain ⟨mA, J, _⟩ := ins_get I.hok ha
  obtain ⟨od, J, _⟩ := J.look
  obtain ⟨m, hF⟩ := I.fr
  refine bool_K hF I.ok.mod.kin J h1 h2 (wpAny_mono (run_at F b (hr.mono hk).in1.in1 I.env0.in1.in1 hx I (us := [.ref a]) (vs := [.ref a]) (.cons rfl .nil) q) (fun w s' z => ?_) fun _ _ y => y)
  obtain ⟨z', H', I', rz, bb, rfl, qz⟩ := z
  cases (show w = Value.bool bb from rz)
  exact ⟨.bl bb, H', I', rfl, qz⟩
theorem call_strO (c : Op X.prog X.w X.K X.mg X.base CX k C "__str__" sp) (hr : Room j X.A) (hk : k + 2 ≤ j) (hx : Passes CX X E) : CallR X (.type "str") (rOwnS C sp E) := by
  obtain ⟨f, fd, ps, F, h1, h2, b⟩ := c
  intro pins s σ H xs us Q I rx h
  obtain ⟨a, dx, fs, rfl, ha, q⟩ := h
  obtain ⟨u, rfl, ru⟩ := vals1 rx
  cases (show u = Value.ref a from ru)
  obtain ⟨mA, J, _⟩ := ins_get I.hok ha
  obtain ⟨od, J, _⟩ := J.look
  have hr2 := (hr.mono hk)
  refine PySem.W.kso_call (by have := hr2.un; show X.A.units + 1 + 1 < cLine; omega) I.kIn J h1 h2 (wpAny_mono (run_at F b hr2.in1.in1 I.env0.in1.in1 hx I (us := [.ref a]) (vs := [.ref a]) (.cons rfl .nil) q) (fun w s' z => ?_) fun _ _ y => y)
  obtain ⟨z', H', I', rz, zz, rfl, qz⟩ := z
  obtain ⟨t, rfl⟩ := (show ∃ t, w = Value.str zz t from rz)
  exact ⟨.str zz, H', I', ⟨_, rfl⟩, qz⟩
theorem call_lenO (c : Op X.prog X.w X.K X.mg X.base CX k C "__len__" sp) (hr : Room j X.A) (hk : k + 1 ≤ j) (hx : Passes CX X E) : CallR X (.builtin "len") (rOwnN C sp E) := by
  obtain ⟨f, fd, ps, F, h1, h2, b⟩ := c
  intro pins s σ H xs us Q I rx h
  obtain ⟨a, dx, fs, rfl, ha, q⟩ := h
  obtain ⟨u, rfl, ru⟩ := vals1 rx
  cases (show u = Value.ref a from ru)
  obtain ⟨mA, J, _⟩ := ins_get I.hok ha
  obtain ⟨od, J, _⟩ := J.look
  obtain ⟨m, hF⟩ := I.fr
  refine PySem.W.len_K hF I.ok.mod.kin J h1 h2 (wpAny_mono (run_at F b (hr.mono hk).in1 I.env0.in1 hx I (us := [.ref a]) (vs := [.ref a]) (.cons rfl .nil) q) (fun w s' z => ?_) fun _ _ y => y)
  obtain ⟨z', H', I', rz, n, rfl, n0, n1, qz⟩ := z
  obtain ⟨t, rfl⟩ := (show ∃ t, w = Value.int n t from rz)
  exact ⟨⟨n0, n1⟩, .int n, H', I'.tok _, ⟨_, rfl⟩, qz⟩
end
section
variable {H : Hp} {Q : VK} {C a dx : Addr} {fs : List (Str × V)} {sp : Sp} {E : XK}
theorem go_own1 (h : H a = some (.ins C dx fs)) (k : sp [.ref a] H Q E) : rOwn1 C sp E (.ref a) H Q := ⟨a, dx, fs, rfl, h, k⟩
theorem go_ownA (h : H a = some (.ins C dx fs)) (k : sp [.ref a] H Q E) : rOwnA C sp E [.ref a] H Q := ⟨a, dx, fs, rfl, h, k⟩
theorem go_ownB (h : H a = some (.ins C dx fs)) (k : sp [.ref a] H (fun v H' => ∃ b, v = .bl b ∧ Q (.bl b) H') E) : rOwnB C sp E [.ref a] H Q := ⟨a, dx, fs, rfl, h, k⟩
theorem go_ownS (h : H a = some (.ins C dx fs)) (k : sp [.ref a] H (fun v H' => ∃ z, v = .str z ∧ Q (.str z) H') E) : rOwnS C sp E [.ref a] H Q := ⟨a, dx, fs, rfl, h, k⟩
theorem go_ownN (h : H a = some (.ins C dx fs)) (k : sp [.ref a] H (fun v H' => ∃ n : Int, v = .int n ∧ 0 ≤ n ∧ n < 2 ^ 63 ∧ Q (.int n) H') E) : rOwnN C sp E [.ref a] H Q := ⟨a, dx, fs, rfl, h, k⟩
end

/-! ### keywords -/
section
variable {K : PySem.W.Frag} {x qual : Str} {params : Arguments} {body : List Stmt} {scope : Scope} {dvs : List V} {kws : List (Str × V)} {f : Addr} {fd : FuncData} {ps : List Str}
theorem _root_.L2.FunD.kbindsP (F : L2.FunD K x qual params body scope [] kws f fd) (n : Nat) (ks : List Str) (g : {α : Type} → List α → List α → List α)
    (rel : ∀ {vs zs : List V} {us ws : List Value}, Vals vs us → Vals zs ws → Vals (g vs zs) (g us ws))
    (args : ∀ (kV doc pm : Value) (an : Option Addr) (cdv ct : Value) (us ws : List Value), us.length = n → ws.length = ks.length →
      bindArgs (PySem.W.fnOf x qual params body scope .none kV doc pm an cdv ct) ⟨us, ks.zip ws⟩ = pure (ps.zip (g us ws))) :
    KBn K fd ps n ks (fun us ws => g us ws) (fun vs zs => g vs zs) where
  to s us ws _ l1 l2 := by
    rcases F.ex with ⟨_, _, dV, _, _, _, _, _, _, _, same, _, _, none' | ⟨some', _⟩, _⟩
    · rw [same, none'.2]
      exact .of_eq (args _ _ _ _ _ _ us ws l1 l2)
    · exact (some' rfl).elim
  rel := rel
end
/-- C(k = v, ..) with its defaults -/
def MkeK (P : Program) (w : World) (K : PySem.W.Frag) (mg : Str → Option Value) (base : Heap) (CX : CXT) (k : Nat) (x : Str) (sp : Sp) (n : Nat) (ks : List Str) (gV : List V → List V → List V) : Prop :=
  ∃ f fd ps g, FnOk P w K mg base CX k f fd ps sp ∧ Mk K (ga K x) f ∧ mg x = some (.ref (ga K x)) ∧ KBn K fd ps (n + 1) ks g gV
def tMkK (C : Addr) (sp : Sp) (n m : Nat) (gV : List V → List V → List V) (E : XK) (t tk : TA) : TE := fun σ H Q => t σ H fun vs H1 => tk σ H1 fun zs H2 => vs.length = n ∧ zs.length = m ∧ ∀ x dx, H2 x = none → H2 dx = none → dx ≠ x →
  sp (gV (.ref x :: vs) zs) (upd (upd H2 dx (.own x)) x (.ins C dx [])) (fun v H3 => v = .non ∧ Q (.ref x) H3) E
section
variable {X : Cx} {CX : CXT} {j k n : Nat} {x : Str} {sp : Sp} {E : XK} {p pos : Pos} {e : Expr} {es : List Expr} {kws : List Keyword} {ks : List Str} {t tk : TA} {gV : List V → List V → List V} {K' : PySem.W.Frag}
theorem pe_mkeK0 (hK : X.K = K') (c : MkeK X.prog X.w X.K X.mg X.base CX k x sp 0 ks gV) (hr : Room j X.A) (hk : k + 1 ≤ j) (hx : Passes CX X E) (hkw : PK X kws tk) (hg : Gl X x := by rfl)
    (hall : (backToKw pos (keywordEach kws X.env)).all (·.1.isSome) = true := by rfl) (hks : (backToKw pos (keywordEach kws X.env)).filterMap (·.1) = ks := by rfl) (hdb : (x == ("__debug__" : Str)) = false := by decide)
    (hpl : ((backTo pos (starEach [] X.env)).any (·.1) || (backToKw pos (keywordEach kws X.env)).any (·.1.isNone)) = false := by rfl) :
    PE X (.Call (.Name x p) [] kws pos) (tMkK (ga K' x) sp 0 ks.length gV E tNil tk) := by
  subst hK
  obtain ⟨f, fd, ps, g, F, M, hm, b⟩ := c
  exact pe_makeK0 M F (hr.mono hk) hg hm b hx hkw hall hks hdb hpl
theorem pe_mkek (hK : X.K = K') (c : Mke X.prog X.w X.K X.mg X.base CX k x sp) (hr : Room j X.A) (hk : k + 1 ≤ j) (hx : Passes CX X E) (ha : PA X (e :: es) t) (hg : Gl X x := by rfl)
    (hdb : (x == ("__debug__" : Str)) = false := by decide) (he : starEach (e :: es) X.env = (false, eval e X.env) :: starEach es X.env := by rfl)
    (hpl : (backTo pos (starEach es X.env)).any (·.1) = false := by rfl) : PE X (.Call (.Name x p) (e :: es) [] pos) (tMake (ga K' x) sp [] E t) := by
  subst hK
  exact pe_mke c hr hk hx ha hg hdb he hpl
theorem pe_mkedk {dvs : List V} (hK : X.K = K') (c : MkeD X.prog X.w X.K X.mg X.base CX k x sp dvs) (hr : Room j X.A) (hk : k + 1 ≤ j) (hx : Passes CX X E) (ha : PA X (e :: es) t) (hg : Gl X x := by rfl)
    (hdb : (x == ("__debug__" : Str)) = false := by decide) (he : starEach (e :: es) X.env = (false, eval e X.env) :: starEach es X.env := by rfl)
    (hpl : (backTo pos (starEach es X.env)).any (·.1) = false := by rfl) : PE X (.Call (.Name x p) (e :: es) [] pos) (tMake (ga K' x) sp dvs E t) := by
  subst hK
  exact pe_mked c hr hk hx ha hg hdb he hpl
end
def rMkK (C : Addr) (sp : Sp) (n m : Nat) (gV : List V → List V → List V) (E : XK) (vs zs : List V) (H2 : Hp) (Q : VK) : Prop := vs.length = n ∧ zs.length = m ∧ ∀ x dx, H2 x = none → H2 dx = none → dx ≠ x →
  sp (gV (.ref x :: vs) zs) (upd (upd H2 dx (.own x)) x (.ins C dx [])) (fun v H3 => v = .non ∧ Q (.ref x) H3) E
theorem go_mkK {C : Addr} {sp : Sp} {n m : Nat} {gV : List V → List V → List V} {E : XK} {t tk : TA} {σ : L2.St} {H : Hp} {Q : VK} (k : t σ H fun vs H1 => tk σ H1 fun zs H2 => rMkK C sp n m gV E vs zs H2 Q) : tMkK C sp n m gV E t tk σ H Q := k
theorem mkK_of {C : Addr} {sp : Sp} {n m : Nat} {gV : List V → List V → List V} {E : XK} {vs zs ws : List V} {H : Hp} {Q : VK} (hn : vs.length = n) (hm : zs.length = m) (e : ∀ x, gV (.ref x :: vs) zs = .ref x :: ws) (k : rMake C sp E ws H Q) : rMkK C sp n m gV E vs zs H Q :=
  ⟨hn, hm, fun x dx nx nd ne => by
    have z := k x dx nx nd ne
    rw [List.append_nil] at z
    rw [e]
    exact z⟩

/-! ### division by numbers of either sign -/
def CDivV (_ j : Int) : Prop := j ≠ 0 ∧ j.natAbs.log2 < 9000
theorem op_fdivV {X : Cx} : OpR X (binaryOp .FloorDiv) (rI CDivV fun i j => .int (i.fdiv j)) := opI fun _ _ _ _ _ _ _ hc q => floordiv_int hc.1 q (.inl (PyProof.noPylong_of_log2 hc.2))
theorem divV {i j : Int} (h0 : j ≠ 0) (h1 : -1000000000000000000000000000000000000000000000000000000000000 < j) (h2 : j < 1000000000000000000000000000000000000000000000000000000000000) : CDivV i j := by
  refine ⟨h0, Nat.lt_of_lt_of_le (log_lt (k := 200) ?_ (by decide)) (by decide)⟩
  have : (2 : Nat) ^ 200 = 1606938044258990275541962092341162602522202993782792835301376 := by decide
  omega

/-! ### texts put together -/
section
variable {σ : L2.St} {H : Hp} {Q : VK}
def rJs (ts : List TE) (acc : Str) (σ : L2.St) (x : V) (H : Hp) (Q : Str → Hp → Prop) : Prop := ∃ y : Str, x = .str y ∧ (acc ++ y).length ≤ sizeLine ∧ tJs ts (acc ++ y) σ H Q
theorem go_jsc {t : TE} {ts : List TE} {acc : Str} {Q : Str → Hp → Prop} (k : t σ H fun x H1 => rJs ts acc σ x H1 Q) : tJs (t :: ts) acc σ H Q := k
theorem go_jsn {acc : Str} {Q : Str → Hp → Prop} (k : Q acc H) : tJs [] acc σ H Q := k
theorem go_jsx {ts : List TE} {acc y : Str} {Q : Str → Hp → Prop} (l : acc.length + y.length ≤ 10000000) (k : tJs ts (acc ++ y) σ H Q) : rJs ts acc σ (.str y) H Q :=
  ⟨y, rfl, by rw [PySem.Str.length_append]; exact Nat.le_trans l (by decide), k⟩
def rFmt (x : V) (H1 : Hp) (Q : VK) : Prop := (∃ y : Str, x = .str y ∧ y.length ≤ sizeLine ∧ Q (.str y) H1) ∨ ∃ i : Int, x = .int i ∧ i.natAbs.log2 < 1920 ∧ Q (.str (toString i)) H1
theorem go_fmt {te : TE} (k : te σ H fun x H1 => rFmt x H1 Q) : tFmt te σ H Q := k
theorem fmt_int {i : Int} (h : i.natAbs.log2 < 1920) (k : Q (.str (toString i)) H) : rFmt (.int i) H Q := .inr ⟨i, rfl, h, k⟩
theorem fmt_str {y : Str} (h : y.length ≤ 10000000) (k : Q (.str y) H) : rFmt (.str y) H Q := .inl ⟨y, rfl, Nat.le_trans h (by decide), k⟩
theorem repr_bl {K : PySem.W.Frag} {b : Bool} (k : Q (.str (PyData.bool b).shown) H) : rRepr K [.bl b] H Q := by
  cases b
  · exact ⟨_, _, rfl, .bl false, by decide +kernel, by decide +kernel, by decide +kernel, by decide +kernel, k⟩
  · exact ⟨_, _, rfl, .bl true, by decide +kernel, by decide +kernel, by decide +kernel, by decide +kernel, k⟩
end
/-! ### an invariant and a number that falls -/
section
variable {tc : TT} {tb : TS} {D : Ends} {σ : L2.St} {H : Hp}
theorem while_go (W : Nat → L2.St → Hp → Prop) (m : Nat) (h0 : W m σ H)
    (hs : ∀ m σ H, W m σ H → tc σ H fun b H1 => if b = true then ∃ N : L2.St → Hp → Prop, (∀ σ' H', N σ' H' → ∃ m', m' < m ∧ W m' σ' H') ∧ tb { D with nx := N, ct := N, bk := D.nx } σ H1 else D.nx σ H1) : tWhile tc tb D σ H := ⟨W, ⟨m, h0⟩, hs⟩
theorem while_step {W : Nat → L2.St → Hp → Prop} {m : Nat} (k : tb { D with nx := fun σ' H' => ∃ m', m' < m ∧ W m' σ' H', ct := fun σ' H' => ∃ m', m' < m ∧ W m' σ' H', bk := D.nx } σ H) :
    ∃ N : L2.St → Hp → Prop, (∀ σ' H', N σ' H' → ∃ m', m' < m ∧ W m' σ' H') ∧ tb { D with nx := N, ct := N, bk := D.nx } σ H := ⟨_, fun _ _ h => h, k⟩
end

section
variable {σ : L2.St} {H : Hp} {Q : VK} {K : PySem.W.Frag}
/-- some are kept -/
theorem lcListIf {j : Nat} {a : Addr} {xs : List V} {vs : List Nat} {tt : TT} {te : TE} (c : V → Bool) (f : V → V) (hn : xs.length ≤ 100000) (ha : SqL K H a xs) (hw : ∀ v, wipe ((wipe σ vs).set j (some v)) vs = wipe σ vs)
    (ht : ∀ (x : V) (H' : Hp) (Q' : Bool → Hp → Prop), x ∈ xs → Same H H' → (∀ H'', Same H' H'' → Q' (c x) H'') → tt ((wipe σ vs).set j (some x)) H' Q')
    (hs : ∀ (x : V) (H' : Hp) (Q' : VK), x ∈ xs → c x = true → Same H H' → (∀ H'', Same H' H'' → Q' (f x) H'') → te ((wipe σ vs).set j (some x)) H' Q')
    (k : ∀ D H', H D = none → Same H H' → H' D = some (.lst ((xs.filter c).map f)) → Q (.ref D) H') : rLc (Itl K a) (gName j) tt te vs σ H Q := by
  intro D nD
  refine lc_list (K := K) (a := a) (xs := xs) (fun i H' => Same H H' ∧ H' D = some (.lst (((xs.take i).filter c).map f))) ⟨Same.new nD, upd_same⟩ (fun i H' _ p => p.1.seq ha) ?_ fun H' ⟨s, d⟩ => k D H' nD s (by rw [List.take_length] at d; exact d)
  rintro i x H' hi ⟨s, d⟩
  refine ⟨hw _, ?_⟩
  have hx := List.mem_of_getElem? hi
  obtain ⟨hlt, ex⟩ := List.getElem?_eq_some_iff.mp hi
  have step : (xs.take (i + 1)).filter c = (xs.take i).filter c ++ (if c x = true then [x] else []) := by
    rw [List.take_add_one, hi, List.filter_append]
    cases e : c x <;> simp [e]
  refine ht x H' _ hx s fun H1 s1 => ?_
  refine go_b (fun e => ?_) fun e => ?_
  · refine hs x H1 _ hx e (s.trans s1) fun H'' s2 => ?_
    refine ⟨_, s2 _ _ (s1 _ _ d), ?_, ?_, ?_⟩
    · rw [List.length_map]
      have q := List.length_filter_le c (xs.take i)
      rw [List.length_take] at q
      exact Nat.lt_of_lt_of_le (Nat.lt_of_lt_of_le (show ((xs.take i).filter c).length < xs.length by omega) hn) (by decide)
    · exact fun b o h => (upd_ne (ne_of_none h nD)).trans (s2 _ _ (s1 _ _ (s _ _ h)))
    · rw [step, if_pos e, List.map_append]
      exact upd_same
  · refine ⟨s.trans s1, ?_⟩
    rw [step, if_neg (by rw [e]; exact Bool.false_ne_true), List.append_nil]
    exact s1 _ _ d
end
theorem go_kS {y : Str} {R : Str → Prop} (k : R y) : ∃ z, V.str y = .str z ∧ R z := ⟨y, rfl, k⟩
end CT
namespace CT
open PySem PySem.Spec PyProof.Rows L2
open He (ga ma fAd)

/-! ### numbers by their bits -/
/-- of at most k bits -/
def Bt (k : Nat) (i : Int) : Prop := i.natAbs < 2 ^ k
section
variable {i j : Int} {k l m : Nat}
theorem Bt.mono (h : Bt k i) (e : k ≤ l) : Bt l i := Nat.lt_of_lt_of_le h (Nat.pow_le_pow_right (by decide) e)
theorem Bt.neg (h : Bt k i) : Bt k (-i) := by
  unfold Bt
  rw [Int.natAbs_neg]
  exact h
theorem Bt.mul (h : Bt k i) (g : Bt l j) : Bt (k + l) (i * j) := by
  unfold Bt at h g ⊢
  rw [Int.natAbs_mul, Nat.pow_add]
  exact Nat.mul_lt_mul'' h g
theorem Bt.add (h : Bt k i) (g : Bt l j) : Bt (max k l + 1) (i + j) := by
  have h' := h.mono (Nat.le_max_left k l)
  have g' := g.mono (Nat.le_max_right k l)
  unfold Bt at h' g' ⊢
  rw [Nat.pow_succ]
  omega
theorem Bt.sub (h : Bt k i) (g : Bt l j) : Bt (max k l + 1) (i - j) := by
  rw [Int.sub_eq_add_neg]
  exact h.add g.neg
theorem Bt.le (h : Bt k i) (g : j.natAbs ≤ i.natAbs) : Bt k j := Nat.lt_of_le_of_lt g h
theorem Bt.div (h : Bt k i) (g : 0 < j) : Bt (k + 1) (i / j) := by
  unfold Bt at h ⊢
  rw [Nat.pow_succ]
  have a := divB (t := i) (b := j) (B := (2 : Int) ^ k) g (by
    have : ((2 ^ k : Nat) : Int) = (2 : Int) ^ k := by exact_mod_cast rfl
    omega) (by
    have : ((2 ^ k : Nat) : Int) = (2 : Int) ^ k := by exact_mod_cast rfl
    omega)
  have : ((2 ^ k : Nat) : Int) = (2 : Int) ^ k := by exact_mod_cast rfl
  omega
theorem Bt.mod (g : 0 < j) (h : Bt k j) : Bt k (i % j) := by
  have a := Int.emod_nonneg i (show j ≠ 0 by omega)
  have b := Int.emod_lt_of_pos i g
  unfold Bt at h ⊢
  omega
theorem Bt.abs (h : Bt k i) : Bt k (if i < 0 then -i else i) := by
  split
  · exact h.neg
  · exact h
theorem Bt.log (h : Bt k i) (hk : 0 < k) : i.natAbs.log2 < k := by
  by_cases z : i.natAbs = 0
  · rw [z]
    exact hk
  · exact (Nat.log2_lt z).mpr h
theorem Bt.mulW (h : Bt k i) (g : Bt l j) (e : k + l ≤ 900000) : CMulW i j := by
  have a := (h.mono (Nat.le_succ k)).log (Nat.succ_pos k)
  have b := (g.mono (Nat.le_succ l)).log (Nat.succ_pos l)
  show i.natAbs.log2 + j.natAbs.log2 < 1000000
  omega
theorem Bt.divW (h : 0 < j) (g : Bt l j) (e : l ≤ 8000) : CDivW i j := ⟨h, by
  have b := (g.mono (Nat.le_succ l)).log (Nat.succ_pos l)
  omega⟩
theorem Bt.divV (h : j ≠ 0) (g : Bt l j) (e : l ≤ 8000) : CDivV i j := ⟨h, by
  have b := (g.mono (Nat.le_succ l)).log (Nat.succ_pos l)
  omega⟩
theorem Bt.of (k : Nat) (h1 : -(2 : Int) ^ k < i) (h2 : i < (2 : Int) ^ k) : Bt k i := by
  unfold Bt
  have : ((2 ^ k : Nat) : Int) = (2 : Int) ^ k := by exact_mod_cast rfl
  omega
end
end CT
namespace CT
open PySem PySem.Spec PyProof.Rows L2
open He (ga ma fAd)

/-! ### o.m(k = v, ..) -/
def tMethK (C : Addr) (m : Str) (sp : Sp) (l : Nat) (gV : List V → List V → List V) (E : XK) (ta : TE) (tk : TA) : TE := fun σ H Q => ta σ H fun x H1 => ∃ (a dx : Addr) (fs : List (Str × V)), x = .ref a ∧ H1 a = some (.ins C dx fs) ∧ fs.lookup m = none ∧
  tk σ H1 fun zs H2 => zs.length = l ∧ sp (gV [x] zs) H2 Q E
section
variable {X : Cx} {CX : CXT} {k : Nat} {f C : Addr} {fd : FuncData} {ps ks : List Str} {sp : Sp} {E : XK} {m : Str} {apos pos : Pos} {o : Expr} {kws : List Keyword} {ta : TE} {tk : TA} {g : List Value → List Value → List Value} {gV : List V → List V → List V}
theorem pe_methK0 {pl : Sem Bool} (he : PE X o ta) (c : Cls X.K C) (hm : Meth X.K C m f) (F : FnOk X.prog X.w X.K X.mg X.base CX k f fd ps sp) (hr : Room k X.A) (hb : KBn X.K fd ps 1 ks g gV) (hx : Passes CX X E) (hkw : PK X kws tk)
    (hall : (backToKw pos (keywordEach kws X.env)).all (·.1.isSome) = true := by rfl) (hks : (backToKw pos (keywordEach kws X.env)).filterMap (·.1) = ks := by rfl)
    (hpl : ((backTo pos (starEach [] X.env)).any (·.1) || (backToKw pos (keywordEach kws X.env)).any (·.1.isNone)) = false := by rfl)
    (ht : eval (.Call (.Attribute o m apos) [] kws pos) X.env = (do
      let ov ← eval o X.env
      standAt apos.atName
      let (f, first) ← holding [ov] (getMethod ov m pl)
      callWith pos f first (backTo pos (starEach [] X.env)) (backToKw pos (keywordEach kws X.env))) := by rfl) :
    PE X (.Call (.Attribute o m apos) [] kws pos) (tMethK C m sp ks.length gV E ta tk) := by
  refine ⟨fun pins s σ H Q I h => ?_⟩
  refine PySem.W.methodCall_KW (pl := pl) (thn (he.run pins s σ H _ I h) fun u s1 ⟨x, H1, I1, rx, a, dx, fs, ex, ea, l, q⟩ => ?_) ht
  subst ex
  obtain rfl : u = Value.ref a := rx
  refine getmeth_ok I1 ea c hm l ?_
  refine PySem.W.callWith_KW0 (first := [.ref a]) (h₀ := X.base) I.ok.mod.kin hm.kp hall ?_ hpl
  refine thn (hkw.run pos pins s1 σ H1 _ I1 q) fun ws s2 ⟨zs, H2, I2, rz, l2, q2⟩ => ⟨I2.kIn, ?_⟩
  rw [hks]
  exact run_fnN (us := [.ref a]) (vs := [.ref a]) F hr hb hx I2 (.cons rfl .nil) rz rfl l2 q2
end
def MeK (P : Program) (w : World) (K : PySem.W.Frag) (mg : Str → Option Value) (base : Heap) (CX : CXT) (k : Nat) (C : Addr) (m : Str) (sp : Sp) (ks : List Str) (gV : List V → List V → List V) : Prop :=
  ∃ f fd ps g, FnOk P w K mg base CX k f fd ps sp ∧ Cls K C ∧ Meth K C m f ∧ KBn K fd ps 1 ks g gV
section
variable {X : Cx} {CX : CXT} {j k : Nat} {C : Addr} {ks : List Str} {sp : Sp} {E : XK} {m : Str} {apos pos : Pos} {o : Expr} {kws : List Keyword} {ta : TE} {tk : TA} {gV : List V → List V → List V}
theorem pe_mek {pl : Sem Bool} (c : MeK X.prog X.w X.K X.mg X.base CX k C m sp ks gV) (hr : Room j X.A) (hk : k ≤ j) (hx : Passes CX X E) (he : PE X o ta) (hkw : PK X kws tk)
    (hall : (backToKw pos (keywordEach kws X.env)).all (·.1.isSome) = true := by rfl) (hks : (backToKw pos (keywordEach kws X.env)).filterMap (·.1) = ks := by rfl)
    (hpl : ((backTo pos (starEach [] X.env)).any (·.1) || (backToKw pos (keywordEach kws X.env)).any (·.1.isNone)) = false := by rfl)
    (ht : eval (.Call (.Attribute o m apos) [] kws pos) X.env = (do
      let ov ← eval o X.env
      standAt apos.atName
      let (f, first) ← holding [ov] (getMethod ov m pl)
      callWith pos f first (backTo pos (starEach [] X.env)) (backToKw pos (keywordEach kws X.env))) := by rfl) :
    PE X (.Call (.Attribute o m apos) [] kws pos) (tMethK C m sp ks.length gV E ta tk) := by
  obtain ⟨f, fd, ps, g, F, cl, hm, b⟩ := c
  exact pe_methK0 he cl hm F (hr.mono hk) b hx hkw hall hks hpl ht
end
def rMethK (C : Addr) (m : Str) (sp : Sp) (l : Nat) (gV : List V → List V → List V) (E : XK) (tk : TA) (σ : L2.St) (x : V) (H1 : Hp) (Q : VK) : Prop := ∃ (a dx : Addr) (fs : List (Str × V)), x = .ref a ∧ H1 a = some (.ins C dx fs) ∧ fs.lookup m = none ∧
  tk σ H1 fun zs H2 => zs.length = l ∧ sp (gV [x] zs) H2 Q E
theorem go_methK {C : Addr} {m : Str} {sp : Sp} {l : Nat} {gV : List V → List V → List V} {E : XK} {ta : TE} {tk : TA} {σ : L2.St} {H : Hp} {Q : VK} (k : ta σ H fun x H1 => rMethK C m sp l gV E tk σ x H1 Q) : tMethK C m sp l gV E ta tk σ H Q := k
theorem methK_x {C a dx : Addr} {fs : List (Str × V)} {m : Str} {sp : Sp} {n : Nat} {gV : List V → List V → List V} {E : XK} {tk : TA} {σ : L2.St} {H : Hp} {Q : VK} (h : H a = some (.ins C dx fs)) (l : fs.lookup m = none) (k : tk σ H fun zs H2 => zs.length = n ∧ sp (gV [.ref a] zs) H2 Q E) :
    rMethK C m sp n gV E tk σ (.ref a) H Q := ⟨a, dx, fs, rfl, h, l, k⟩
theorem Er1.sm {K : PySem.W.Frag} {x f : Str} {v : V} {H H1 : Hp} {E : XK} (s : Same H H1) (h : Er1 K x f v H E) : Er1 K x f v H1 E := fun d H' n s' hd => h d H' (no_sm s n) (s.trans s') hd
theorem go_aug {i : Nat} {te : TE} {ti : TIp} {D : Ends} {σ : L2.St} {H : Hp} {x : V} (h : σ[i]? = some (some x)) (k : te σ H fun y H1 => ti x y H1 fun z H2 => gName i z σ H2 D.nx) : tAug i te ti D σ H := ⟨x, h, k⟩
end CT
namespace CT
open PySem PySem.Spec PyProof.Rows L2
open He (ga ma fAd)

/-! ### methods of the class: C.m(..), C.m(k = v), and cls(..) within -/
section
variable {K : PySem.W.Frag} {C x : Addr} {m : Str}
theorem cmet_f {x m : Str} (h : (Fc.cmet x m).ok K = true) : ClX.CMet K (ga K x) (clsMc K (ga K x)) m (cmAt K (ga K x) m) (recHead K (cmAt K (ga K x) m) "classmethod") := by
  obtain ⟨h1, h⟩ := ba h
  obtain ⟨h2, h3⟩ := ba h
  refine ⟨?_, ?_, h3⟩
  · unfold cmB at h1
    unfold cmAt
    split at h1
    · rename_i b p D e
      obtain ⟨e1, e2⟩ := ba h1
      have e1' := of_decide_eq_true e1
      have e2' := of_decide_eq_true e2
      subst e1' e2'
      rw [e]
    · cases h1
  · exact recB_ok h2
end
section
variable {P : Program} {w : World} {K : PySem.W.Frag} {mg : Str → Option Value} {base : Heap} {CX : CXT} {k : Nat} {f : Addr} {fd : FuncData} {ps : List Str} {sp : Sp}
theorem fnR_of (F : FnOk P w K mg base CX k f fd ps sp) (b : Binds K fd ps []) : FnR P w K mg base CX k f sp := fun A outer s H us vs Q E hr e0 r h => by
  have kin : K.In s.heap := fun a o q => (e0.bs a o (e0.mod.kin a o q)).1
  have r' : Vals vs (us ++ []) := by rw [List.append_nil]; exact r
  exact F.run A outer s H ⟨us, []⟩ (us ++ []) vs Q E hr e0 (b s us kin (by rw [← r'.length]; exact F.len _ _ _ _ h)) r' h
/-- a method of the class at C -/
def Cm (P : Program) (w : World) (K : PySem.W.Frag) (mg : Str → Option Value) (base : Heap) (CX : CXT) (k : Nat) (C : Addr) (m : Str) (sp : Sp) : Prop :=
  ∃ p g fd ps, FnOk P w K mg base CX k g fd ps sp ∧ ClX.CRead K C (clsMc K C) ∧ ClX.CMet K C (clsMc K C) m p g ∧ Binds K fd ps []
def CmK (P : Program) (w : World) (K : PySem.W.Frag) (mg : Str → Option Value) (base : Heap) (CX : CXT) (k : Nat) (C : Addr) (m : Str) (sp : Sp) (ks : List Str) (gV : List V → List V → List V) : Prop :=
  ∃ p q fd ps g, FnOk P w K mg base CX k q fd ps sp ∧ ClX.CRead K C (clsMc K C) ∧ ClX.CMet K C (clsMc K C) m p q ∧ KBn K fd ps 1 ks g gV
end
section
variable {X : Cx} {CX : CXT} {j k i : Nat} {C : Addr} {ks : List Str} {sp : Sp} {E : XK} {m x : Str} {p apos pos : Pos} {o e : Expr} {es : List Expr} {kws : List Keyword} {ta : TE} {t tk : TA} {gV : List V → List V → List V} {dvs : List V}
theorem pe_cm {pl : Sem Bool} (c : Cm X.prog X.w X.K X.mg X.base CX k C m sp) (hr : Room j X.A) (hk : k ≤ j) (hx : Passes CX X E) (he : PE X o ta) (ha : PA X (e :: es) t)
    (hst : starEach (e :: es) X.env = (false, eval e X.env) :: starEach es X.env := by rfl) (hpl : (backTo pos (starEach es X.env)).any (·.1) = false := by rfl)
    (ht : eval (.Call (.Attribute o m apos) (e :: es) [] pos) X.env = (do
      let ov ← eval o X.env
      standAt apos.atName
      let (f, first) ← holding [ov] (getMethod ov m pl)
      callWith pos f first (backTo pos (starEach (e :: es) X.env)) (backToKw pos (keywordEach [] X.env))) := by rfl) :
    PE X (.Call (.Attribute o m apos) (e :: es) [] pos) (ClX.tCMeth C sp E ta t) := by
  obtain ⟨p, g, fd, ps, F, r, c, b⟩ := c
  exact ClX.pe_cmeth he r c (fnR_of F b) (hr.mono hk) hx ha hst hpl ht
/-- C.m(k = v, ..) -/
def tCMethK (C : Addr) (sp : Sp) (l : Nat) (gV : List V → List V → List V) (E : XK) (ta : TE) (tk : TA) : TE := fun σ H Q => ta σ H fun x H1 => x = .ref C ∧ tk σ H1 fun zs H2 => zs.length = l ∧ sp (gV [.ref C] zs) H2 Q E
theorem pe_cmK {pl : Sem Bool} (c : CmK X.prog X.w X.K X.mg X.base CX k C m sp ks gV) (hr : Room j X.A) (hk : k ≤ j) (hx : Passes CX X E) (he : PE X o ta) (hkw : PK X kws tk)
    (hall : (backToKw pos (keywordEach kws X.env)).all (·.1.isSome) = true := by rfl) (hks : (backToKw pos (keywordEach kws X.env)).filterMap (·.1) = ks := by rfl)
    (hpl : ((backTo pos (starEach [] X.env)).any (·.1) || (backToKw pos (keywordEach kws X.env)).any (·.1.isNone)) = false := by rfl)
    (ht : eval (.Call (.Attribute o m apos) [] kws pos) X.env = (do
      let ov ← eval o X.env
      standAt apos.atName
      let (f, first) ← holding [ov] (getMethod ov m pl)
      callWith pos f first (backTo pos (starEach [] X.env)) (backToKw pos (keywordEach kws X.env))) := by rfl) :
    PE X (.Call (.Attribute o m apos) [] kws pos) (tCMethK C sp ks.length gV E ta tk) := by
  obtain ⟨p, q, fd, ps, g, F, r, c, b⟩ := c
  refine ⟨fun pins s σ H Q I h => ?_⟩
  refine PySem.W.methodCall_KW (pl := pl) (thn (he.run pins s σ H _ I h) fun u s1 ⟨x, H1, I1, rx, ex, q1⟩ => ?_) ht
  subst ex
  cases (show u = Value.ref C from rx)
  refine ClX.getmethcm_ok I1 r c fun s2 I2 => ?_
  refine PySem.W.callWith_of hpl (PySem.W.keeps_M (self := Value.ref C) c.fi) (PyProof.Rows.evalArgs_kw2_nil hall (Q := fun a s₁ => PySem.W.MethP X.K s1.heap.objs.size q (Value.ref C) s₁.heap ∧ wpAny (model X.prog X.w) X.A (call (.ref s1.heap.objs.size) ([] ++ a.pos) a.kw) (EP X pins σ Q) X.xe s₁) ?_)
  refine thn (hkw.run pos _ s2 σ H1 _ I2 q1) fun ws s3 ⟨zs, H2, I3, rz, l2, q2⟩ => ⟨⟨ClX.pin_at I3, I3.kIn⟩, ?_⟩
  rw [hks]
  refine thn (Q := EP X ((s1.heap.objs.size, PySem.W.methodObj (.ref q) (.ref C)) :: pins) σ Q) ?_ fun _ _ y => ClX.unpinE y
  refine wpAny_call (PySem.W.method_call (ClX.pin_at I3) ?_)
  refine codeAny_mono (F.run X.A X.stack s3 H2 ⟨[.ref C], ks.zip ws⟩ (g [.ref C] ws) (gV [.ref C] zs) Q E (hr.mono hk) I3.env0 (b.to s3 [.ref C] ws I3.kIn rfl (rz.length.symm.trans l2)) (b.rel (.cons rfl .nil) rz) q2) fun r s' hq => ?_
  cases r with
  | error e => exact hx _ σ H2 s3 e s' I3 hq
  | ok fl =>
    cases fl with
    | ret u => exact I3.after hq
    | next => exact False.elim hq
    | brk => exact False.elim hq
    | cont => exact False.elim hq
/-- cls(..), where a slot holds the class -/
def tMakeL (i : Nat) (C : Addr) (sp : Sp) (dvs : List V) (E : XK) (t : TA) : TE := fun σ H Q => σ[i]? = some (some (.ref C)) ∧ tMake C sp dvs E t σ H Q
theorem pe_mkeL {x' : Str} (c : Mke X.prog X.w X.K X.mg X.base CX k x' sp) (hr : Room j X.A) (hk : k + 1 ≤ j) (hx : Passes CX X E) (hN : X.N[i]? = some x) (ha : PA X (e :: es) t)
    (hv : Vis X.env.scope x := by first | exact Or.inl rfl | exact Or.inr (Or.inl rfl) | exact Or.inr (Or.inr rfl)) (hdb : (x == ("__debug__" : Str)) = false := by decide) (hcd : (x == ("__classdict__" : Str)) = false := by decide)
    (he : starEach (e :: es) X.env = (false, eval e X.env) :: starEach es X.env := by rfl) (hpl : (backTo pos (starEach es X.env)).any (·.1) = false := by rfl) : PE X (.Call (.Name x p) (e :: es) [] pos) (tMakeL i (ga X.K x') sp [] E t) := by
  obtain ⟨f, fd, ps, F, M, hm, b⟩ := c
  refine ⟨fun pins s σ H Q I ⟨hs, h⟩ => ?_⟩
  refine wpAny_Call_Name_kw (thn ((pe_var (pos := p) hN hv hdb hcd).run pins s σ H (fun v H1 => v = .ref (ga X.K x') ∧ H1 = H) I ⟨_, hs, rfl, rfl⟩) fun u s1 ⟨v, H1, I1, r1, q1⟩ => ?_)
  obtain ⟨rfl, rfl⟩ := q1
  cases r1
  refine PySem.W.callWith_K (h₀ := X.base) I.ok.mod.kin M.kp (thn (ha.run pos pins s1 σ _ _ I1 h) fun us s2 ⟨vs, H2, I2, r, q⟩ => ⟨I2.kIn, ?_⟩) he hpl
  exact run_make M F (hr.mono hk) b .nil hx I2 r q
end
section
variable {σ : L2.St} {H : Hp} {Q : VK} {E : XK} {C : Addr} {sp : Sp} {ta to te : TE} {t : TA}
theorem go_cm (k : ta σ H fun x H1 => x = .ref C ∧ t σ H1 fun vs H2 => sp (.ref C :: vs) H2 Q E) : ClX.tCMeth C sp E ta t σ H Q := k
theorem go_cmx {x : V} {R : Prop} (e : x = .ref C) (k : R) : x = .ref C ∧ R := ⟨e, k⟩
theorem go_cmK {l : Nat} {gV : List V → List V → List V} (k : ta σ H fun x H1 => x = .ref C ∧ t σ H1 fun zs H2 => zs.length = l ∧ sp (gV [.ref C] zs) H2 Q E) : tCMethK C sp l gV E ta t σ H Q := k
theorem go_mkL {i : Nat} {dvs : List V} (e : σ[i]? = some (some (.ref C))) (k : tMake C sp dvs E t σ H Q) : tMakeL i C sp dvs E t σ H Q := ⟨e, k⟩
/-! ### methods of strings -/
def rM0 (r : V → List V → Hp → VK → Prop) (x : V) (H : Hp) (Q : VK) : Prop := (∃ a, x = .str a) ∧ r x [] H Q
theorem go_m0 {r : V → List V → Hp → VK → Prop} (k : to σ H fun x H1 => rM0 r x H1 Q) : L2.tM0 r to σ H Q := k
def rS0 (f : Str → V) : V → List V → Hp → VK → Prop := fun x xs H Q => ∃ a, x = .str a ∧ xs = [] ∧ True ∧ Q (f a) H
theorem go_s0 {f : Str → V} {a : Str} (k : Q (f a) H) : rM0 (rS0 f) (.str a) H Q := ⟨⟨a, rfl⟩, a, rfl, rfl, trivial, k⟩
def rM1 (r : V → List V → Hp → VK → Prop) (te : TE) (σ : L2.St) (x : V) (H : Hp) (Q : VK) : Prop := (∃ a, x = .str a) ∧ te σ H fun y H2 => r x [y] H2 Q
theorem go_m1 {r : V → List V → Hp → VK → Prop} (k : to σ H fun x H1 => rM1 r te σ x H1 Q) : L2.tM1 r to te σ H Q := k
def rM1' (r : V → List V → Hp → VK → Prop) (x y : V) (H : Hp) (Q : VK) : Prop := r x [y] H Q
theorem go_m1s {r : V → List V → Hp → VK → Prop} {a : Str} (k : te σ H fun y H2 => rM1' r (.str a) y H2 Q) : rM1 r te σ (.str a) H Q := ⟨⟨a, rfl⟩, k⟩
def rSplit : V → List V → Hp → VK → Prop := fun x xs H Q => ∃ a b, x = .str a ∧ xs = [.str b] ∧ (b.length == 0) = false ∧ a.length + 2 ≤ sizeLine ∧ L2.rNewStrs (Txt.split a b) H Q
theorem go_split {a b : Str} (hb : (b.length == 0) = false) (hl : a.length ≤ 9000000) (k : ∀ p H', H p = none → Same H H' → H' p = some (.lst ((Txt.split a b).map V.str)) → Q (.ref p) H') : rM1' rSplit (.str a) (.str b) H Q :=
  ⟨a, b, rfl, rfl, hb, Nat.le_trans (Nat.add_le_add_right hl 2) (by decide), fun p np => k p _ np (Same.new np) upd_same⟩
def rJoin (K : PySem.W.Frag) : V → List V → Hp → VK → Prop := fun x xs H Q => ∃ a p, ∃ ys : List Str, x = .str a ∧ xs = [.ref p] ∧ (SqL K H p (ys.map V.str) ∨ SqT K H p (ys.map V.str)) ∧
  (ys.map (·.length)).sum + ys.length * a.length ≤ 16777216 ∧ Q (.str (Txt.join a ys)) H
theorem go_join {K : PySem.W.Frag} {a : Str} {p : Addr} {ys : List Str} (h : SqL K H p (ys.map V.str)) (hl : (ys.map (·.length)).sum + ys.length * a.length ≤ 16777216) (k : Q (.str (Txt.join a ys)) H) : rM1' (rJoin K) (.str a) (.ref p) H Q :=
  ⟨a, p, ys, rfl, rfl, .inl h, hl, k⟩
def rLenS (xs : List V) (H : Hp) (Q : VK) : Prop := ∃ z : Str, xs = [.str z] ∧ z.length ≤ sizeLine ∧ Q (.int z.length) H
theorem go_lenS {z : Str} (hl : z.length ≤ 10000000) (k : Q (.int z.length) H) : rLenS [.str z] H Q := ⟨z, rfl, Nat.le_trans hl (by decide), k⟩
end
section
variable {X : Cx} {o e : Expr} {to te : TE} {apos pos : Pos}
theorem pe_isascii (ho : PE X o to) (hbase : attributeBase o "isascii" X.env (eval o X.env) = eval o X.env := by rfl) (hline : (apos.endLine == pos.line) = true := by rfl) : PE X (.Call (.Attribute o "isascii" apos) [] [] pos) (L2.tM0 (rS0 fun a => .bl (Txt.isascii a)) to) :=
  pe_m0 F.slot_str_isascii F.type_str_isascii mt_isascii ho hbase hline
theorem pe_isdigit (ho : PE X o to) (hbase : attributeBase o "isdigit" X.env (eval o X.env) = eval o X.env := by rfl) (hline : (apos.endLine == pos.line) = true := by rfl) : PE X (.Call (.Attribute o "isdigit" apos) [] [] pos) (L2.tM0 (rS0 fun a => .bl (Txt.isdigit a)) to) :=
  pe_m0 F.slot_str_isdigit F.type_str_isdigit mt_isdigit ho hbase hline
theorem pe_splitS (ho : PE X o to) (he : PE X e te) (hs : starEach [e] X.env = [(false, eval e X.env)] := by rfl) (hbase : attributeBase o "split" X.env (eval o X.env) = eval o X.env := by rfl) (hline : (apos.endLine == pos.line) = true := by rfl) :
    PE X (.Call (.Attribute o "split" apos) [e] [] pos) (L2.tM1 rSplit to te) := pe_split ho he hs hbase hline
theorem pe_joinS (ho : PE X o to) (he : PE X e te) (hs : starEach [e] X.env = [(false, eval e X.env)] := by rfl) (hbase : attributeBase o "join" X.env (eval o X.env) = eval o X.env := by rfl) (hline : (apos.endLine == pos.line) = true := by rfl) :
    PE X (.Call (.Attribute o "join" apos) [e] [] pos) (L2.tM1 (rJoin X.K) to te) := pe_join ho he hs hbase hline
end
/-! ### walks over texts and counted lists -/
section
variable {σ : L2.St} {H : Hp} {Q : VK} {K : PySem.W.Frag} {D : Ends} {g : TG} {tb : TS}
def rStrI (x : V) (H : Hp) (R : It → Hp → Prop) : Prop := ∃ z : Str, x = .str z ∧ R (Its z) H
theorem go_strI {tl : TE} {R : It → Hp → Prop} (k : tl σ H fun x H1 => rStrI x H1 R) : iStr tl σ H R := k
theorem go_strIx {z : Str} {R : It → Hp → Prop} (k : R (Its z) H) : rStrI (.str z) H R := ⟨z, rfl, k⟩
def rEnumI (K : PySem.W.Frag) (vs : List V) (H : Hp) (R : It → Hp → Prop) : Prop := ∃ a xs, vs = [.ref a] ∧ SqL K H a xs ∧ R (Ite K a) H
theorem go_enumI {ta : TA} {R : It → Hp → Prop} (k : ta σ H fun vs H1 => rEnumI K vs H1 R) : iEnum K ta σ H R := k
theorem go_enumIx {a : Addr} {xs : List V} {R : It → Hp → Prop} (h : SqL K H a xs) (k : R (Ite K a) H) : rEnumI K [.ref a] H R := ⟨a, xs, rfl, h, k⟩
theorem forEnum {a : Addr} {xs : List V} (Pv : Nat → St → Hp → Prop) (h0 : Pv 0 σ H) (hl : ∀ i σ H, i ≤ xs.length → Pv i σ H → SqL K H a xs)
    (hs : ∀ i x σ H T, xs[i]? = some x → Pv i σ H → H T = none → g (.ref T) σ (upd H T (.tup [.int (i : Nat), x])) fun σ2 H2 => tb { D with nx := Pv (i + 1), ct := Pv (i + 1), bk := D.nx } σ2 H2) (hd : ∀ σ H, Pv xs.length σ H → D.nx σ H) : rFor (Ite K a) g tb D σ H := by
  refine for_it walk_enum Pv h0 hl (fun i v σ H H' hi p y => ?_) hd
  obtain ⟨T, x, y', h1, h2, h3, h4, h5⟩ := y
  subst h1 h3
  cases h4
  exact hs i y' σ H T h5 p h2
/-- some signs of a text are kept -/
theorem lcStrIf {j : Nat} {z : Str} {vs : List Nat} {tt : TT} {te : TE} (c : Nat → Bool) (hn : z.length ≤ 100000) (hw : ∀ v, wipe ((wipe σ vs).set j (some v)) vs = wipe σ vs)
    (ht : ∀ (x : Nat) (H' : Hp) (Q' : Bool → Hp → Prop), x ∈ TL.tl z → Same H H' → (∀ H'', Same H' H'' → Q' (c x) H'') → tt ((wipe σ vs).set j (some (.str ⟨#[x]⟩))) H' Q')
    (hs : ∀ (x : Nat) (H' : Hp) (Q' : VK), x ∈ TL.tl z → c x = true → Same H H' → (∀ H'', Same H' H'' → Q' (.str ⟨#[x]⟩) H'') → te ((wipe σ vs).set j (some (.str ⟨#[x]⟩))) H' Q')
    (k : ∀ D H', H D = none → Same H H' → H' D = some (.lst (((TL.tl z).filter c).map fun x => V.str ⟨#[x]⟩)) → Q (.ref D) H') : rLc (Its z) (gName j) tt te vs σ H Q := by
  intro D nD
  have sz : z.cps.size = (TL.tl z).length := by simp [TL.tl]
  refine lc_it walk_str (fun i H' => Same H H' ∧ H' D = some (.lst ((((TL.tl z).take i).filter c).map fun x => V.str ⟨#[x]⟩))) ⟨Same.new nD, upd_same⟩ (fun _ _ _ _ => trivial) ?_ fun H' ⟨s, d⟩ => k D H' nD s (by rw [sz, List.take_length] at d; exact d)
  rintro i v H1 H' hi ⟨s, d⟩ ⟨rfl, x, hx, rfl⟩
  refine ⟨hw _, ?_⟩
  have hx' : (TL.tl z)[i]? = some x := by unfold TL.tl; rw [Array.getElem?_toList]; exact hx
  have hm := List.mem_of_getElem? hx'
  have step : ((TL.tl z).take (i + 1)).filter c = ((TL.tl z).take i).filter c ++ (if c x = true then [x] else []) := by
    rw [List.take_add_one, hx', List.filter_append]
    cases e : c x <;> simp [e]
  refine ht x H' _ hm s fun H1 s1 => ?_
  refine go_b (fun e => ?_) fun e => ?_
  · refine hs x H1 _ hm e (s.trans s1) fun H'' s2 => ?_
    refine ⟨_, s2 _ _ (s1 _ _ d), ?_, ?_, ?_⟩
    · rw [List.length_map]
      refine Nat.lt_of_le_of_lt (List.length_filter_le _ _) ?_
      have hz : z.length = z.cps.size := rfl
      rw [List.length_take]
      exact Nat.lt_of_lt_of_le (show min i _ < z.length by omega) (Nat.le_trans hn (by decide))
    · exact fun b o h => (upd_ne (ne_of_none h nD)).trans (s2 _ _ (s1 _ _ (s _ _ h)))
    · rw [step, if_pos e, List.map_append]
      exact upd_same
  · refine ⟨s.trans s1, ?_⟩
    rw [step, if_neg (by rw [e]; decide), List.append_nil]
    exact s1 _ _ d
end
/-! ### words that are figures -/
section
open TL NumText
theorem ascii_digit : ∀ c : Nat, c < 128 → Unicode.isDigit c = decide (48 ≤ c ∧ c ≤ 57) := by decide +kernel
theorem figs_iff (w : Str) : (Txt.isascii w && Txt.isdigit w) = true ↔ tl w ≠ [] ∧ AllDigits (tl w) := by
  unfold Txt.isascii Txt.isdigit
  rw [Bool.and_eq_true, Bool.and_eq_true, ← Array.all_toList, ← Array.all_toList, List.all_eq_true, List.all_eq_true, decide_eq_true_iff, len_tl]
  constructor
  · rintro ⟨h1, h2, h3⟩
    refine ⟨fun z => ?_, fun c hc => ?_⟩
    · rw [z] at h2
      exact absurd h2 (by decide)
    · have a := of_decide_eq_true (h1 c hc)
      have b := h3 c hc
      rw [ascii_digit c a] at b
      exact of_decide_eq_true b
  · rintro ⟨h1, h2⟩
    refine ⟨fun c hc => ?_, List.length_pos_iff.mpr h1, fun c hc => ?_⟩
    · have := h2 c hc
      exact decide_eq_true (by omega)
    · have := h2 c hc
      rw [ascii_digit c (by omega)]
      exact decide_eq_true this
theorem map_back : ∀ l : List Nat, AllDigits l → (l.map Char.ofNat).map Char.toNat = l
  | [], _ => rfl
  | c :: l, h => by
    have e : ∀ c : Nat, c < 58 → (Char.ofNat c).toNat = c := by decide
    rw [List.map_cons, List.map_cons, map_back l h.tail, e c (by have := h.head; omega)]
/-- a number without a nought ahead is what str writes -/
theorem num_back {l : List Nat} (h : AllDigits l) (hne : l ≠ []) (h0 : l = [48] ∨ l.head? ≠ some 48) : numL (digitsVal l) = l := by
  unfold numL
  obtain ⟨c, r, rfl⟩ := List.exists_cons_of_ne_nil hne
  rw [toDigits_digitsVal r.length (c :: r) rfl h ?_, map_back _ h]
  rcases h0 with h0 | h0
  · cases h0
    exact .inl rfl
  · refine .inr ⟨c, r, rfl, ?_⟩
    have := h.head
    have n : c ≠ 48 := fun z => h0 (by rw [z]; rfl)
    omega
theorem text_back {w : Str} (h : AllDigits (tl w)) (hne : tl w ≠ []) (h0 : tl w = [48] ∨ (tl w).head? ≠ some 48) : Str.ofString (toString ((digitsVal (tl w) : Nat) : Int)) = w :=
  ext_tl (by rw [tl_num, num_back h hne h0])
theorem val_ge : ∀ (l : List Nat) (a : Nat), a * 10 ^ l.length ≤ l.foldl (fun acc c => acc * 10 + (c - 48)) a
  | [], a => by simp
  | c :: l, a => by
    have := val_ge l (a * 10 + (c - 48))
    rw [List.length_cons, Nat.pow_succ, Nat.mul_comm (10 ^ l.length) 10, ← Nat.mul_assoc]
    exact Nat.le_trans (Nat.mul_le_mul_right _ (Nat.le_add_right _ _)) this
/-- a number of n figures without a nought ahead is at least 10 to n - 1 -/
theorem val_long {c : Nat} {l : List Nat} (h : 49 ≤ c) : 10 ^ l.length ≤ digitsVal (c :: l) := by
  have := val_ge l (c - 48)
  have e : digitsVal (c :: l) = l.foldl (fun acc c => acc * 10 + (c - 48)) (c - 48) := by
    show List.foldl _ _ _ = _
    rw [List.foldl_cons, Nat.zero_mul, Nat.zero_add]
  rw [e]
  exact Nat.le_trans (Nat.le_mul_of_pos_left _ (by omega)) this
end
/-- a text, n times -/
def repS (a : Str) (n : Nat) : Str := ⟨(List.replicate n a.cps).foldl (· ++ ·) #[]⟩
theorem fold_size : ∀ (n : Nat) (a acc : Array Nat), ((List.replicate n a).foldl (· ++ ·) acc).size = acc.size + n * a.size
  | 0, _, _ => by simp
  | n + 1, a, acc => by
    rw [List.replicate_succ, List.foldl_cons, fold_size n a, Array.size_append, Nat.succ_mul]
    omega
theorem repS_len (a : Str) (n : Nat) : (repS a n).length = n * a.length := by
  show ((List.replicate n a.cps).foldl (· ++ ·) #[]).size = _
  rw [fold_size]
  show 0 + _ = _
  rw [Nat.zero_add]
  rfl
def rRepS : V → V → Hp → VK → Prop := fun x y H Q => ∃ (a : Str) (n : Nat), x = .str a ∧ y = .int (n : Nat) ∧ (2 ≤ n ∧ n ≤ 5000) ∧ (0 < a.length ∧ a.length ≤ 1000) ∧ Q (.str (repS a n)) H
theorem op_repS {X : Cx} : OpR X (binaryOp .Mult) rRepS := by
  intro pins s σ H x y v u Q I rx ry h
  obtain ⟨a, n, rfl, rfl, ⟨n2, n5⟩, ⟨a0, a1⟩, q⟩ := h
  obtain ⟨t, rfl⟩ := rx
  obtain ⟨t', rfl⟩ := ry
  have hm : a.length * n ≤ 1000 * 5000 := Nat.mul_le_mul a1 n5
  have e1 : ((n : Int) == 1 || a.length == 0) = false := by
    have h1 : ((n : Int) == 1) = false := by rw [beq_eq_false_iff_ne]; omega
    have h2 : (a.length == 0) = false := by rw [beq_eq_false_iff_ne]; omega
    rw [h1, h2]
    rfl
  refine P.mul_str ?_ ?_ ?_ ?_
  · rw [decide_eq_false (by omega), decide_eq_false (by omega)]
    rfl
  · intro _ _ hc
    have : (a.length : Int) ≤ ((2 : Int) ^ 63 - 1) / (n : Int) := by
      refine (Int.le_ediv_iff_mul_le (by omega)).mpr ?_
      have hm' : (a.length : Int) * (n : Int) ≤ 1000 * 5000 := by exact_mod_cast hm
      exact Int.le_trans hm' (by decide)
    omega
  · intro _ _
    have z : ((n : Int)).toNat = n := rfl
    rw [z]
    exact decide_eq_false (Nat.not_lt.mpr (Nat.le_trans hm (by decide)))
  · rw [if_neg (by omega), if_neg (by rw [e1]; decide)]
    refine ⟨?_, .str (repS a n), H, I.tok _, ⟨_, rfl⟩, q⟩
    show (repS a n).length ≤ _
    rw [repS_len, Nat.mul_comm]
    exact Nat.le_trans hm (by decide)
theorem go_repS {H : Hp} {Q : VK} {a : Str} {i : Int} (h0 : 2 ≤ i ∧ i ≤ 5000) (h2 : 0 < a.length ∧ a.length ≤ 1000) (k : Q (.str (repS a i.toNat)) H) : rRepS (.str a) (.int i) H Q :=
  ⟨a, i.toNat, rfl, congrArg V.int (by omega), ⟨by omega, by omega⟩, h2, k⟩
end CT
/-! ### texts of ratios, by lists of signs -/
namespace Rx
open PySem PySem.NumText L2
/-- a number as str writes it -/
def okW (l : List Nat) : Prop := l ≠ [] ∧ AllDigits l ∧ (l = [48] ∨ l.head? ≠ some 48)
theorem okW.back {l : List Nat} (h : okW l) : TL.numL (digitsVal l) = l := CT.num_back h.2.1 h.1 h.2.2
theorem okW.no {l : List Nat} (h : okW l) {c : Nat} (hc : c < 48 ∨ 57 < c) : c ∉ l := fun m => by
  have := h.2.1 c m
  omega
theorem num_head : ∀ n : Nat, 1 ≤ n → (TL.numL n).head? ≠ some 48 := fun n => by
  induction n using Nat.strongRecOn with
  | _ n ih =>
    intro h
    by_cases h10 : n < 10
    · rw [TL.numL_lt h10]
      intro q
      have := Option.some.inj q
      omega
    · rw [TL.numL_step (by omega)]
      have := ih (n / 10) (by omega) (by omega)
      obtain ⟨c, r, e⟩ := List.exists_cons_of_ne_nil (TL.numL_ne (n / 10))
      rw [e] at this ⊢
      exact this
theorem num_okW (n : Nat) : okW (TL.numL n) := by
  refine ⟨TL.numL_ne n, TL.numL_digits n, ?_⟩
  rcases Nat.eq_zero_or_pos n with z | z
  · subst z
    exact .inl (TL.numL_lt (by decide))
  · exact .inr (num_head n z)
theorem zero_okW {l : List Nat} (h : okW l) (z : digitsVal l = 0) : l = [48] := by
  rw [← h.back, z]
  exact TL.numL_lt (by decide)
/-- the signs of a number -/
def sgn (i : Int) : List Nat := if i < 0 then 45 :: TL.numL i.natAbs else TL.numL i.natAbs
theorem tl_str (i : Int) : TL.tl (Str.ofString (toString i)) = sgn i := by
  unfold sgn
  cases i with
  | ofNat n =>
    rw [if_neg (by have : (0 : Int) ≤ Int.ofNat n := Int.natCast_nonneg n; omega)]
    exact TL.tl_num n
  | negSucc n =>
    rw [if_pos (Int.negSucc_lt_zero n)]
    have e := TL.tl_num (n + 1)
    rw [TL.tl_ofString] at e ⊢
    show ((("-" : String) ++ toString (n + 1)).toList).map Char.toNat = _
    rw [String.toList_append, List.map_append]
    show [45] ++ _ = _
    rw [show (Int.negSucc n).natAbs = n + 1 from rfl]
    rw [← e]
    rfl
theorem sgn_no (i : Int) : 47 ∉ sgn i := by
  have h := (num_okW i.natAbs).no (c := 47) (by omega)
  unfold sgn
  split
  · intro m
    rcases List.mem_cons.mp m with q | q
    · cases q
    · exact h q
  · exact h
theorem sgn_inj {i j : Int} (h : sgn i = sgn j) : i = j := by
  have nd : ∀ n : Nat, (TL.numL n).head? ≠ some 45 := fun n q => by
    obtain ⟨c, r, e⟩ := List.exists_cons_of_ne_nil (TL.numL_ne n)
    rw [e] at q
    have := TL.numL_digits n c (by rw [e]; exact List.mem_cons_self)
    cases q
    omega
  unfold sgn at h
  split at h
  · split at h
    · have := TL.numL_inj (List.cons.inj h).2
      omega
    · exact absurd (by rw [← h]; rfl) (nd j.natAbs)
  · split at h
    · exact absurd (by rw [h]; rfl) (nd i.natAbs)
    · have := TL.numL_inj h
      omega
/-- without a minus ahead -/
def bare (l : List Nat) : List Nat := if l.head? = some 45 then l.tail else l
def neg (l : List Nat) : Bool := decide (l.head? = some 45)
theorem bare_eq (l : List Nat) : l = if neg l = true then 45 :: bare l else bare l := by
  unfold neg bare
  by_cases h : l.head? = some 45
  · rw [if_pos h, decide_eq_true h, if_pos rfl]
    cases l with
    | nil => cases h
    | cons c r =>
      cases h
      rfl
  · rw [if_neg h, decide_eq_false h, if_neg Bool.false_ne_true]
/-- a number with its sign -/
def val (l : List Nat) : Int := if neg l = true then -((digitsVal (bare l) : Nat) : Int) else ((digitsVal (bare l) : Nat) : Int)
theorem sgn_val {l : List Nat} (h : okW (bare l)) (z : l ≠ [45, 48]) : sgn (val l) = l := by
  have e := bare_eq l
  have b := h.back
  unfold val sgn
  cases q : neg l with
  | false =>
    rw [q, if_neg Bool.false_ne_true] at e
    rw [if_neg Bool.false_ne_true, if_neg (by omega), Int.natAbs_natCast, b, ← e]
  | true =>
    rw [q, if_pos rfl] at e
    have pos : digitsVal (bare l) ≠ 0 := fun y => z (by rw [e, zero_okW h y])
    rw [if_pos rfl, if_pos (by omega), Int.natAbs_neg, Int.natAbs_natCast, b, ← e]
theorem val_sgn (i : Int) : val (sgn i) = i ∧ okW (bare (sgn i)) ∧ sgn i ≠ [45, 48] := by
  have nd : ∀ n : Nat, (TL.numL n).head? ≠ some 45 := fun n q => by
    obtain ⟨c, r, e⟩ := List.exists_cons_of_ne_nil (TL.numL_ne n)
    rw [e] at q
    have := TL.numL_digits n c (by rw [e]; exact List.mem_cons_self)
    cases q
    omega
  unfold sgn
  split
  · rename_i h
    have e1 : neg (45 :: TL.numL i.natAbs) = true := rfl
    have e2 : bare (45 :: TL.numL i.natAbs) = TL.numL i.natAbs := rfl
    refine ⟨?_, by rw [e2]; exact num_okW _, fun q => ?_⟩
    · unfold val
      rw [e1, if_pos rfl, e2, TL.numL_val]
      omega
    · have := (List.cons.inj q).2
      rw [← TL.numL_lt (show 0 < 10 by decide)] at this
      have := TL.numL_inj this
      omega
  · rename_i h
    have e1 : neg (TL.numL i.natAbs) = false := decide_eq_false (nd _)
    have e2 : bare (TL.numL i.natAbs) = TL.numL i.natAbs := if_neg (nd _)
    refine ⟨?_, by rw [e2]; exact num_okW _, fun q => nd i.natAbs (by rw [q]; rfl)⟩
    unfold val
    rw [e1, if_neg Bool.false_ne_true, e2, TL.numL_val]
    omega
/-- the text of a ratio -/
def rtL (n d : Int) : List Nat := if d = 1 then sgn n else sgn n ++ 47 :: sgn d
/-- a text without a stroke -/
def One (l : List Nat) : Prop := 47 ∉ l ∧ okW (bare l) ∧ l ≠ [45, 48]
/-- a text with one -/
def Two (a b : List Nat) : Prop := okW (bare a) ∧ a ≠ [45, 48] ∧ okW b ∧ 2 ≤ digitsVal b ∧ bare a ≠ [48] ∧ Nat.gcd (digitsVal (bare a)) (digitsVal b) = 1
theorem app_inj {a b c d : List Nat} (h : a ++ 47 :: b = c ++ 47 :: d) (ha : 47 ∉ a) (hc : 47 ∉ c) : a = c ∧ b = d := by
  induction a generalizing c with
  | nil =>
    cases c with
    | nil => exact ⟨rfl, (List.cons.inj h).2⟩
    | cons x c => exact absurd (by rw [← (List.cons.inj h).1]; exact List.mem_cons_self) hc
  | cons x a ih =>
    cases c with
    | nil => exact absurd (by rw [(List.cons.inj h).1]; exact List.mem_cons_self) ha
    | cons y c =>
      obtain ⟨e1, e2⟩ := List.cons.inj h
      obtain ⟨f1, f2⟩ := ih e2 (fun m => ha (List.mem_cons_of_mem _ m)) (fun m => hc (List.mem_cons_of_mem _ m))
      exact ⟨by rw [e1, f1], f2⟩
/-- a text without a stroke is that of its number -/
theorem one_iff {l : List Nat} (ns : 47 ∉ l) (h : okW (bare l)) : rtL (val l) 1 = l ↔ One l := by
  unfold rtL
  rw [if_pos rfl]
  exact ⟨fun e => ⟨ns, h, by rw [← e]; exact (val_sgn _).2.2⟩, fun o => sgn_val h o.2.2⟩
theorem gcd_ab (a : List Nat) : (val a).natAbs = digitsVal (bare a) := by
  unfold val
  split
  · rw [Int.natAbs_neg, Int.natAbs_natCast]
  · rw [Int.natAbs_natCast]
/-- a text with a stroke is that of the ratio of both, in lowest terms -/
theorem two_iff {a b : List Nat} (ns : 47 ∉ a) (ha : okW (bare a)) (hb : okW b) (pos : 0 < digitsVal b) :
    rtL (val a / ((Nat.gcd (digitsVal (bare a)) (digitsVal b) : Nat) : Int)) (((digitsVal b : Nat) : Int) / ((Nat.gcd (digitsVal (bare a)) (digitsVal b) : Nat) : Int)) = a ++ 47 :: b ↔ Two a b := by
  generalize hg : Nat.gcd (digitsVal (bare a)) (digitsVal b) = g
  have g0 : 0 < g := hg ▸ Nat.gcd_pos_of_pos_right _ pos
  have gb : g ∣ digitsVal b := hg ▸ Nat.gcd_dvd_right _ _
  have sb : sgn ((digitsVal b : Nat) : Int) = b := by
    unfold sgn
    rw [if_neg (by omega), Int.natAbs_natCast, hb.back]
  constructor
  · intro e
    unfold rtL at e
    split at e
    · exact absurd (by rw [e]; exact List.mem_append_right _ List.mem_cons_self) (sgn_no (val a / (g : Int)))
    · rename_i d1
      obtain ⟨e1, e2⟩ := app_inj e (sgn_no _) ns
      have e3 := sgn_inj (e2.trans sb.symm)
      have g1 : g = 1 := by
        obtain ⟨k, hk⟩ := gb
        rw [hk] at e3 pos
        have : ((g * k : Nat) : Int) / (g : Int) = (k : Nat) := by
          rw [Int.natCast_mul, Int.mul_ediv_cancel_left _ (by omega)]
        rw [this] at e3
        have e4 : k = g * k := Int.ofNat.inj e3
        have k0 : 0 < k := Nat.pos_of_ne_zero fun z => by rw [z, Nat.mul_zero] at pos; omega
        have : 1 * k = g * k := by omega
        exact (Nat.eq_of_mul_eq_mul_right k0 this).symm
      subst g1
      rw [show ((1 : Nat) : Int) = 1 from rfl, Int.ediv_one] at e1 d1
      have d2 : 2 ≤ digitsVal b := by
        have : ((digitsVal b : Nat) : Int) ≠ 1 := d1
        omega
      refine ⟨ha, by rw [← e1]; exact (val_sgn _).2.2, hb, d2, fun z => ?_, hg⟩
      rw [z] at hg
      rw [show digitsVal [48] = 0 from rfl, Nat.gcd_zero_left] at hg
      omega
  · rintro ⟨_, na, _, d2, nz, g1⟩
    have : g = 1 := hg.symm.trans g1
    subst this
    rw [show ((1 : Nat) : Int) = 1 from rfl, Int.ediv_one, Int.ediv_one]
    unfold rtL
    rw [if_neg (by omega), sgn_val ha na, sb]
theorem bare_app (a b : List Nat) : bare (a ++ 47 :: b) = bare a ++ 47 :: b ∧ neg (a ++ 47 :: b) = neg a := by
  cases a with
  | nil => exact ⟨rfl, rfl⟩
  | cons c a =>
    unfold bare neg
    show (if some c = some 45 then _ else _) = (if some c = some 45 then _ else _) ++ _ ∧ decide (some c = some 45) = decide (some c = some 45)
    refine ⟨?_, rfl⟩
    split <;> rfl
theorem bare_sub (l : List Nat) : ∀ c ∈ bare l, c ∈ l := fun c h => by
  rw [bare_eq l]
  split
  · exact List.mem_cons_of_mem _ h
  · exact h
theorem bare_len (l : List Nat) : (bare l).length ≤ l.length := by
  unfold bare
  split
  · rw [List.length_tail]
    omega
  · exact Nat.le_refl _
theorem val_lt {l : List Nat} (h : AllDigits l) : digitsVal l < 10 ^ l.length := by
  have key : ∀ (l : List Nat) (a : Nat), AllDigits l → l.foldl (fun acc c => acc * 10 + (c - 48)) a < (a + 1) * 10 ^ l.length := fun l => by
    induction l with
    | nil =>
      intro a _
      show a < (a + 1) * 1
      omega
    | cons c r ih =>
      intro a q
      have hc := q c List.mem_cons_self
      have z := ih (a * 10 + (c - 48)) fun d hd => q d (List.mem_cons_of_mem _ hd)
      show r.foldl _ (a * 10 + (c - 48)) < _
      refine Nat.lt_of_lt_of_le z ?_
      rw [List.length_cons, Nat.pow_succ, Nat.mul_comm (10 ^ r.length) 10, ← Nat.mul_assoc]
      exact Nat.mul_le_mul_right _ (by omega)
  have := key l 0 h
  rwa [Nat.zero_add, Nat.one_mul] at this
def okB (l : List Nat) : Bool := decide (l ≠ []) && (l.all (fun c => decide (48 ≤ c ∧ c ≤ 57)) && (decide (l = [48]) || decide (l.head? ≠ some 48)))
theorem okB_iff {l : List Nat} : okB l = true ↔ okW l := by
  unfold okB okW AllDigits
  simp only [Bool.and_eq_true, decide_eq_true_eq, Bool.or_eq_true, List.all_eq_true]
/-- where the first stroke stands -/
def cut : List Nat → Option (List Nat × List Nat)
  | [] => none
  | c :: r => if c = 47 then some ([], r) else (cut r).map fun p => (c :: p.1, p.2)
theorem cut_none : ∀ {l : List Nat}, cut l = none → 47 ∉ l
  | [], _ => by simp
  | c :: r, h => by
    unfold cut at h
    split at h
    · cases h
    · rename_i hc
      have := cut_none (Option.map_eq_none_iff.mp h)
      intro m
      rcases List.mem_cons.mp m with q | q
      · exact hc q.symm
      · exact this q
theorem cut_some : ∀ {l a b : List Nat}, cut l = some (a, b) → l = a ++ 47 :: b ∧ 47 ∉ a
  | [], _, _, h => by cases h
  | c :: r, a, b, h => by
    unfold cut at h
    split at h
    · rename_i hc
      cases h
      exact ⟨by rw [hc]; rfl, by simp⟩
    · rename_i hc
      obtain ⟨⟨x, y⟩, h1, h2⟩ := Option.map_eq_some_iff.mp h
      cases h2
      obtain ⟨e, n⟩ := cut_some h1
      refine ⟨by rw [e]; rfl, fun m => ?_⟩
      rcases List.mem_cons.mp m with q | q
      · exact hc q.symm
      · exact n q
def isB (l : List Nat) : Bool := match cut l with
  | none => okB (bare l) && decide (l ≠ [45, 48])
  | some (a, b) => okB (bare a) && (decide (a ≠ [45, 48]) && (okB b && (decide (2 ≤ digitsVal b) && (decide (bare a ≠ [48]) && decide (Nat.gcd (digitsVal (bare a)) (digitsVal b) = 1)))))
theorem isB_iff {l : List Nat} : isB l = true ↔ (One l ∨ ∃ a b, l = a ++ 47 :: b ∧ 47 ∉ a ∧ Two a b) := by
  unfold isB
  cases h : cut l with
  | none =>
    have n := cut_none h
    show (okB (bare l) && decide (l ≠ [45, 48])) = true ↔ _
    rw [Bool.and_eq_true, okB_iff, decide_eq_true_iff]
    refine ⟨fun q => .inl ⟨n, q.1, q.2⟩, fun q => ?_⟩
    rcases q with q | ⟨a, b, e, _, _⟩
    · exact q.2
    · exact absurd (by rw [e]; exact List.mem_append_right _ List.mem_cons_self) n
  | some p =>
    obtain ⟨a, b⟩ := p
    obtain ⟨e, n⟩ := cut_some h
    show (okB (bare a) && (decide (a ≠ [45, 48]) && (okB b && (decide (2 ≤ digitsVal b) && (decide (bare a ≠ [48]) && decide (Nat.gcd (digitsVal (bare a)) (digitsVal b) = 1)))))) = true ↔ _
    simp only [Bool.and_eq_true, okB_iff, decide_eq_true_iff]
    refine ⟨fun q => .inr ⟨a, b, e, n, q⟩, fun q => ?_⟩
    rcases q with q | ⟨a', b', e', n', t⟩
    · exact absurd (by rw [e]; exact List.mem_append_right _ List.mem_cons_self) q.1
    · obtain ⟨f1, f2⟩ := app_inj (e.symm.trans e') n n'
      rw [f1, f2]
      exact t
/-- the text of a ratio in lowest terms is one -/
theorem low_is {n d : Int} (d0 : 0 < d) (g : Nat.gcd n.natAbs d.natAbs = 1) : One (rtL n d) ∨ ∃ a b, rtL n d = a ++ 47 :: b ∧ 47 ∉ a ∧ Two a b := by
  obtain ⟨v1, v2, v3⟩ := val_sgn n
  unfold rtL
  split
  · exact .inl ⟨sgn_no n, v2, v3⟩
  · rename_i d1
    have sd : sgn d = TL.numL d.natAbs := if_neg (by omega)
    have e1 : digitsVal (bare (sgn n)) = n.natAbs := by rw [← gcd_ab, v1]
    refine .inr ⟨sgn n, sgn d, rfl, sgn_no n, v2, v3, by rw [sd]; exact num_okW _, ?_, fun z => ?_, ?_⟩
    · rw [sd, TL.numL_val]
      omega
    · rw [z, show digitsVal [48] = 0 from rfl] at e1
      rw [← e1, Nat.gcd_zero_left] at g
      omega
    · rw [e1, sd, TL.numL_val]
      exact g
theorem rtL_inj {n d m e : Int} (h : rtL n d = rtL m e) : n = m ∧ d = e := by
  unfold rtL at h
  split at h
  · split at h
    · exact ⟨sgn_inj h, by omega⟩
    · exact absurd (by rw [h]; exact List.mem_append_right _ List.mem_cons_self) (sgn_no n)
  · split at h
    · exact absurd (by rw [← h]; exact List.mem_append_right _ List.mem_cons_self) (sgn_no m)
    · obtain ⟨a, b⟩ := app_inj h (sgn_no n) (sgn_no m)
      exact ⟨sgn_inj a, sgn_inj b⟩
theorem sgn_sign {i : Int} {c : Nat} (h : c ∈ sgn i) : c < 128 := by
  have d : ∀ n : Nat, c ∈ TL.numL n → c < 128 := fun n h => by
    have := TL.numL_digits n c h
    omega
  unfold sgn at h
  split at h
  · rcases List.mem_cons.mp h with q | q
    · omega
    · exact d _ q
  · exact d _ h
theorem rtL_sign {n d : Int} {c : Nat} (h : c ∈ rtL n d) : c < 128 := by
  unfold rtL at h
  split at h
  · exact sgn_sign h
  · rcases List.mem_append.mp h with q | q
    · exact sgn_sign q
    · rcases List.mem_cons.mp q with q | q
      · omega
      · exact sgn_sign q
theorem sgn_len {i : Int} {k : Nat} (hk : 0 < k) (h : i.natAbs < 10 ^ k) : (sgn i).length ≤ k + 1 := by
  have := TL.numL_len hk h
  unfold sgn
  split
  · rw [List.length_cons]
    omega
  · omega
theorem rtL_len {n d : Int} {k : Nat} (hk : 0 < k) (h : n.natAbs < 10 ^ k) (h2 : d.natAbs < 10 ^ k) : (rtL n d).length ≤ 2 * k + 3 := by
  have a := sgn_len hk h
  have b := sgn_len hk h2
  unfold rtL
  split
  · omega
  · rw [List.length_append, List.length_cons]
    omega
end Rx
namespace CT
open PySem PySem.Spec PyProof.Rows L2
open He (ga ma fAd)
open AutoSeq1 (wpAny_loadPart')
open MeetsSeq

/-! ### a dict is no text, no number, no tuple -/
theorem dq_dict_str (a : Addr) (b : Str) (u : Tok) (o : Obj) (es : Array DictEntry) (ep : Nat) (_ : o.data = .dict es ep) :
    Meets (Builtin.«dict.__eq__» ⟨[.ref a, .str b u], []⟩) (fun _ R s => s.heap.get? a = some o ∧ R (.ok (.ret .notImplemented)) s) :=
  .of_wp fun prog w A R s h => by obtain ⟨hp, g, d, tk, os⟩ := s; obtain ⟨ha, h⟩ := h; wp_walk using wpAny_loadPart' ha, wpAny_load ha; refine wpAny_of_eq (M := model prog w) (A := A.in1) F.sub_str_dict ?_; wp_walk; exact ⟨_, rfl, h⟩
theorem dq_dict_int (a : Addr) (b : Int) (u : Tok) (o : Obj) (es : Array DictEntry) (ep : Nat) (_ : o.data = .dict es ep) :
    Meets (Builtin.«dict.__eq__» ⟨[.ref a, .int b u], []⟩) (fun _ R s => s.heap.get? a = some o ∧ R (.ok (.ret .notImplemented)) s) :=
  .of_wp fun prog w A R s h => by obtain ⟨hp, g, d, tk, os⟩ := s; obtain ⟨ha, h⟩ := h; wp_walk using wpAny_loadPart' ha, wpAny_load ha; refine wpAny_of_eq (M := model prog w) (A := A.in1) F.sub_int_dict ?_; wp_walk; exact ⟨_, rfl, h⟩
theorem dq_str_dict (a : Addr) (b : Str) (u : Tok) (es : Array DictEntry) (ep : Nat) (dd : Option Addr) (sl : Array (Option Value)) :
    Meets (Builtin.«str.__eq__» ⟨[.str b u, .ref a], []⟩) (fun _ R s => s.heap.get? a = some ⟨.type "dict", dd, .dict es ep, sl⟩ ∧ R (.ok (.ret .notImplemented)) s) :=
  .of_wp fun prog w A R s h => by obtain ⟨hp, g, d, tk, os⟩ := s; obtain ⟨ha, h⟩ := h; wp_walk using wpAny_loadPart' ha, wpAny_load ha; exact ⟨_, rfl, h⟩
theorem dq_int_dict (a : Addr) (b : Int) (u : Tok) (es : Array DictEntry) (ep : Nat) (dd : Option Addr) (sl : Array (Option Value)) :
    Meets (Builtin.«int.__eq__» ⟨[.int b u, .ref a], []⟩) (fun _ R s => s.heap.get? a = some ⟨.type "dict", dd, .dict es ep, sl⟩ ∧ R (.ok (.ret .notImplemented)) s) :=
  .of_wp fun prog w A R s h => by obtain ⟨hp, g, d, tk, os⟩ := s; obtain ⟨ha, h⟩ := h; wp_walk using wpAny_loadPart' ha, wpAny_load ha; exact ⟨_, rfl, h⟩
theorem dq_tup_dict (t a : Addr) (es : Array DictEntry) (ep : Nat) (dd : Option Addr) (sl : Array (Option Value)) :
    Meets (Builtin.«tuple.__eq__» ⟨[.ref t, .ref a], []⟩) (fun _ R s => s.heap.get? a = some ⟨.type "dict", dd, .dict es ep, sl⟩ ∧ R (.ok (.ret .notImplemented)) s) :=
  .of_wp fun prog w A R s h => by obtain ⟨hp, g, d, tk, os⟩ := s; obtain ⟨ha, h⟩ := h; wp_walk using wpAny_loadPart' ha, wpAny_load ha; refine wpAny_of_eq (M := model prog w) (A := A.in1) F.sub_dict_tuple ?_; wp_walk; exact ⟨_, rfl, h⟩
theorem dq_dict_tup (a t : Addr) (o : Obj) (es : Array DictEntry) (ep : Nat) (_ : o.data = .dict es ep) (dd : Option Addr) (dt : Data) (sl : Array (Option Value)) :
    Meets (Builtin.«dict.__eq__» ⟨[.ref a, .ref t], []⟩) (fun _ R s => s.heap.get? a = some o ∧ s.heap.get? t = some ⟨.type "tuple", dd, dt, sl⟩ ∧ R (.ok (.ret .notImplemented)) s) :=
  .of_wp fun prog w A R s h => by
    obtain ⟨hp, g, d, tk, os⟩ := s; obtain ⟨ha, ht, h⟩ := h
    wp_walk using wpAny_loadPart' ha, wpAny_load ha, wpAny_loadPart' ht, wpAny_load ht
    refine wpAny_of_eq (M := model prog w) (A := A.in1) F.sub_tuple_dict ?_; wp_walk; exact ⟨_, rfl, h⟩
/-- a dict against a text, a number or a tuple -/
def rNoDict : R2 := fun x y H Q => (∃ a kvs, x = .ref a ∧ H a = some (.dK kvs)) ∧ ((∃ z, y = .str z) ∨ (∃ i, y = .int i) ∨ ∃ t xs, y = .ref t ∧ H t = some (.tup xs)) ∧ Q (.bl false) H
section
variable {X : Cx}
theorem op_noDict (hu : X.A.units < cLine) : OpR X (compareOp .Eq) rNoDict := by
  intro pins s σ H x y v u Q I rx ry h
  obtain ⟨⟨a, kvs, rfl, ha⟩, hy, q⟩ := h
  cases (show v = Value.ref a from rx)
  obtain ⟨_, _, vs, _, ⟨oc, dd, da, sl⟩, es, ep, ho, hx, hd, _⟩ := (show ObjOk X.prog X.w H s.heap a (.dK kvs) from I.hok a _ ha)
  obtain rfl : oc = Value.type "dict" := hx.1
  cases (show da = .dict es ep from hd)
  have q' : EP X pins σ Q (.bool false) s := ⟨.bl false, H, I, rfl, q⟩
  have ta : s.TypeIs (.ref a) "dict" := ⟨_, ho, rfl⟩
  show wpAny (model X.prog X.w) X.A (richCompare .Eq (.ref a) u) _ _ s
  rcases hy with ⟨z, rfl⟩ | ⟨i, rfl⟩ | ⟨t, xs, rfl, ht⟩
  · obtain ⟨k, rfl⟩ := (show ∃ k, u = Value.str z k from ry)
    exact SeqAt.rc_eq_decline_or (k := false) ta (typeIs_str s z k) (by decide) F.sub_str_dict F.slot_dict_eq F.slot_str_eq_refl
      (fun _ w => call_meets F.slot_dict_eq ta F.entry_dict_eq (F.args_dict_eq_2 _ _) (dq_dict_str a z k _ es ep rfl) ⟨ho, w⟩)
      (fun _ w => call_meets F.slot_str_eq_refl (typeIs_str s z k) F.entry_str_eq (F.args_str_eq_2 _ _) (dq_str_dict a z k es ep dd sl) ⟨ho, w⟩)
      (fun _ w => wpAny_of_eq (rfl : isSame (.ref a) (.str z k) = pure false) w) (.inr hu) q'
  · obtain ⟨k, rfl⟩ := (show ∃ k, u = Value.int i k from ry)
    exact SeqAt.rc_eq_decline_or (k := false) ta (typeIs_int s i k) (by decide) F.sub_int_dict F.slot_dict_eq F.slot_int_eq_refl
      (fun _ w => call_meets F.slot_dict_eq ta F.entry_dict_eq (F.args_dict_eq_2 _ _) (dq_dict_int a i k _ es ep rfl) ⟨ho, w⟩)
      (fun _ w => call_meets F.slot_int_eq_refl (typeIs_int s i k) F.entry_int_eq (F.args_int_eq_2 _ _) (dq_int_dict a i k es ep dd sl) ⟨ho, w⟩)
      (fun _ w => wpAny_of_eq (rfl : isSame (.ref a) (.int i k) = pure false) w) (.inr hu) q'
  · cases (show u = Value.ref t from ry)
    obtain ⟨its, _, tup, _⟩ := I.tuple (.of (K := X.K) ht)
    have tt := tup.typeIs
    obtain ⟨⟨tc, td, tda, tsl⟩, hto, htc, n, htd⟩ := tup
    obtain rfl : tc = Value.type "tuple" := htc
    have ne : (a == t) = false := by
      rw [beq_eq_false_iff_ne]
      rintro rfl
      have z : Value.type "tuple" = Value.type "dict" := congrArg Obj.cls (Option.some.inj (hto.symm.trans ho))
      exact absurd (Value.type.inj z) (by decide)
    exact SeqAt.rc_eq_decline_or (k := false) ta tt (by decide) F.sub_tuple_dict F.slot_dict_eq F.slot_tuple_eq_refl
      (fun _ w => call_meets F.slot_dict_eq ta F.entry_dict_eq (F.args_dict_eq_2 _ _) (dq_dict_tup a t _ es ep rfl td tda tsl) ⟨ho, hto, w⟩)
      (fun _ w => call_meets F.slot_tuple_eq_refl tt F.entry_tuple_eq (F.args_tuple_eq_2 _ _) (dq_tup_dict t a es ep dd sl) ⟨ho, w⟩)
      (fun _ w => by
        simp [isSame, ne]
        exact wpAny_bind (wpAny_load ho (wpAny_bind (wpAny_load hto (wpAny_pure w))))) (.inr hu) q'
end
end CT
namespace CT
open PySem PySem.Spec PyProof.Rows L2
open He (ga ma fAd)

/-! ### data with dicts: flat items in lists, tuples and dicts -/
inductive Fl : V → PyData → Prop
  | non : Fl .non .none
  | bl (b : Bool) : Fl (.bl b) (.bool b)
  | int (i : Int) : Fl (.int i) (.int i)
  | str (z : Str) : Fl (.str z) (.str z)
theorem Fl.reads {h : Heap} {v : V} {d : PyData} {u : Value} (f : Fl v d) (r : RelV v u) : Reads h u d [] := by
  cases f with
  | non => cases (show u = Value.none from r); exact .none
  | bl b => cases (show u = Value.bool b from r); exact .bool b
  | int i => obtain ⟨t, rfl⟩ := (show ∃ t, u = Value.int i t from r); exact .int i t
  | str z => obtain ⟨t, rfl⟩ := (show ∃ t, u = Value.str z t from r); exact .str z t
theorem flats {h : Heap} {xs : List V} {ds : List PyData} (p : Paired Fl xs ds) : ∀ {us : List Value}, Vals xs us → ReadsAll h us ds [] := by
  induction p with
  | nil =>
    intro us r
    cases r
    exact .nil
  | cons f _ ih =>
    intro us r
    cases r with
    | cons r1 r2 => exact ReadsAll.cons (as := []) (bs := []) (f.reads r1) (ih r2)
def kD : Key → PyData
  | .inl i => .int i
  | .inr z => .str z
theorem kD_reads {h : Heap} {k : Key} {v : Value} (e : keyIs k v = true) : Reads h v (kD k) [] := by
  rcases keyIs_shape e with ⟨i, t, rfl, rfl⟩ | ⟨z, t, rfl, rfl⟩
  · exact .int i t
  · exact .str z t
inductive Dq (H : Hp) : V → PyData → Prop
  | flat {v : V} {d : PyData} (f : Fl v d) : Dq H v d
  | lst {a : Addr} {xs : List V} {ds : List PyData} (e : H a = some (.lst xs)) (p : Paired Fl xs ds) : Dq H (.ref a) (.list ds)
  | tup {a : Addr} {xs : List V} {ds : List PyData} (e : H a = some (.tup xs)) (p : Paired Fl xs ds) : Dq H (.ref a) (.tuple ds)
  | dic {a : Addr} {kvs : List (Key × V)} {ds : List (PyData × PyData)} (e : H a = some (.dK kvs))
      (p : Paired (fun (k : Key × V) (q : PyData × PyData) => q.1 = kD k.1 ∧ Fl k.2 q.2) kvs ds) : Dq H (.ref a) (.dict ds)
theorem Dq.same {H H' : Hp} {v : V} {d : PyData} (q : Dq H v d) (s : Same H H') : Dq H' v d := by
  cases q with
  | flat f => exact .flat f
  | lst e p => exact .lst (s _ _ e) p
  | tup e p => exact .tup (s _ _ e) p
  | dic e p => exact .dic (s _ _ e) p
theorem pairs_keys {P : Program} {w : World} {h : Heap} {es : List DictEntry} {vs : List (Key × Value)} (p : PySem.Pairs (mixKind P w) es vs) :
    ∀ {kvs : List (Key × V)} {ds : List (PyData × PyData)}, KV kvs vs → Paired (fun (k : Key × V) (q : PyData × PyData) => q.1 = kD k.1 ∧ Fl k.2 q.2) kvs ds →
      ReadsAll h (es.map (·.key)) (ds.map (·.1)) [] ∧ ReadsAll h (es.map (·.val)) (ds.map (·.2)) [] := by
  induction p with
  | nil =>
    intro kvs ds r q
    cases r
    cases q
    exact ⟨.nil, .nil⟩
  | cons k e _ ih =>
    intro kvs ds r q
    cases r with
    | cons r1 r2 =>
      cases q with
      | cons q1 q2 =>
        obtain ⟨m1, m2⟩ := ih r2 q2
        obtain ⟨rk, rv⟩ := r1
        obtain ⟨qk, qv⟩ := q1
        constructor
        · refine ReadsAll.cons (as := []) (bs := []) ?_ m1
          dsimp only
          rw [qk, rk]
          exact kD_reads k
        · refine ReadsAll.cons (as := []) (bs := []) ?_ m2
          dsimp only
          rw [e]
          exact qv.reads rv
theorem Dq.reads {X : Cx} {pins : List (Addr × Obj)} {σ : L2.St} {H : Hp} {s : Shared} {v : V} {d : PyData} {u : Value} (I : Inv X pins σ H s) (nm : H sysModules = none) (q : Dq H v d) (r : RelV v u) :
    ∃ as, Reads s.heap u d as ∧ sysModules ∉ as := by
  cases q with
  | flat f => exact ⟨[], f.reads r, List.not_mem_nil⟩
  | @lst a xs ds e p =>
    cases (show u = Value.ref a from r)
    obtain ⟨_, its, n, rv, at_⟩ := (show ObjOk X.prog X.w H s.heap a (.lst xs) from I.hok a _ e)
    refine ⟨_, Reads.list at_ rfl rfl (flats p (by simpa using rv)), ?_⟩
    intro z
    rcases List.mem_cons.mp z with z | z
    · rw [z, e] at nm
      cases nm
    · cases z
  | @tup a xs ds e p =>
    cases (show u = Value.ref a from r)
    obtain ⟨_, its, rv, o, at_, oc, n, od⟩ := (show ObjOk X.prog X.w H s.heap a (.tup xs) from I.hok a _ e)
    exact ⟨_, Reads.tuple at_ oc od (flats p (by simpa using rv)), List.not_mem_nil⟩
  | @dic a kvs ds e p =>
    cases (show u = Value.ref a from r)
    obtain ⟨_, sm, vs, kv, o, es, ep, ho, hx, hd, _, ps, _⟩ := (show ObjOk X.prog X.w H s.heap a (.dK kvs) from I.hok a _ e)
    obtain ⟨r1, r2⟩ := pairs_keys (h := s.heap) ps kv p
    refine ⟨_, Reads.dict ho hx.1 hd r1 r2, ?_⟩
    intro z
    have z' : sysModules = a := by simpa using z
    rw [← z'] at sm
    simp at sm
theorem Dq.all {X : Cx} {pins : List (Addr × Obj)} {σ : L2.St} {H : Hp} {s : Shared} (I : Inv X pins σ H s) (nm : H sysModules = none) {vs : List V} {ds : List PyData} (p : Paired (Dq H) vs ds) :
    ∀ {us : List Value}, Vals vs us → ∃ as, ReadsAll s.heap us ds as ∧ sysModules ∉ as := by
  induction p with
  | nil =>
    intro us r
    cases r
    exact ⟨[], .nil, List.not_mem_nil⟩
  | cons q _ ih =>
    intro us r
    cases r with
    | cons r1 r2 =>
      obtain ⟨as, h1, n1⟩ := q.reads I nm r1
      obtain ⟨bs, h2, n2⟩ := ih r2
      exact ⟨as ++ bs, .cons h1 h2, fun z => (List.mem_append.mp z).elim n1 n2⟩
/-- repr of a list of such data -/
def rReprQ : List V → Hp → VK → Prop := fun xs H Q => ∃ a vs ds, xs = [.ref a] ∧ H a = some (.lst vs) ∧ Paired (Dq H) vs ds ∧ (PyData.list ds).showable = true ∧
  (PyData.list ds).depth ≤ 60 ∧ (PyData.list ds).shown.length ≤ sizeLine ∧ Q (.str (PyData.list ds).shown) H
theorem noSys {X : Cx} {pins : List (Addr × Obj)} {σ : L2.St} {H : Hp} {s : Shared} (I : Inv X pins σ H s) (sm : (X.K.lookup sysModules).isSome = true) : H sysModules = none := by
  obtain ⟨o, e⟩ := Option.isSome_iff_exists.mp sm
  exact (I.bs _ o (I.ok.mod.kin _ o e)).2
theorem call_reprQ {X : Cx} (sm : (X.K.lookup sysModules).isSome = true) (hg : X.A.guards = some []) (hu : X.A.units + 64 < cLine) : CallR X (.builtin "repr") rReprQ := by
  intro pins s σ H xs us Q I r h
  obtain ⟨a, vs, ds, rfl, e, p, sh, dp, sz, q⟩ := h
  obtain ⟨u, rfl, ru⟩ := vals1 r
  cases (show u = Value.ref a from ru)
  have nm := noSys I sm
  obtain ⟨_, its, n, rv, at_⟩ := (show ObjOk X.prog X.w H s.heap a (.lst vs) from I.hok a _ e)
  obtain ⟨as, ra, na⟩ := Dq.all I nm p rv
  refine repr_of_reads' (Reads.list at_ rfl rfl (by simpa using ra)) sh (fun _ z => ?_) hg (by omega) (fun _ _ e => e) (fun h' tk t' k => ⟨.str _, H, I.kept k, ⟨_, rfl⟩, q⟩) sz
  rcases List.mem_cons.mp z with z | z
  · rw [z, e] at nm
    cases nm
  · exact na z

/-! ### == of such data -/
def isD : PyData → Bool
  | .dict _ => true
  | _ => false
theorem Dq.dp {K : PySem.W.Frag} {H : Hp} {v : V} {d : PyData} (q : Dq H v d) (n : isD d = false) : Dp K H v d := by
  have fl : ∀ {v : V} {d : PyData}, Fl v d → Dp K H v d := fun f => by
    cases f with
    | non => exact .non
    | bl b => exact .bl b
    | int i => exact .int i
    | str z => exact .str z
  have all : ∀ {xs : List V} {ds : List PyData}, Paired Fl xs ds → DpAll K H xs ds := fun p => by
    induction p with
    | nil => exact .nil
    | cons f _ ih => exact .cons (fl f) ih
  cases q with
  | flat f => exact fl f
  | lst e p => exact .lst (.of e) (all p)
  | tup e p => exact .tup (.of e) (all p)
  | dic e p => cases n
/-- x == x -/
def rEqQ : R2 := fun x y H Q => x = y ∧ (∃ d, Dq H x d ∧ (if isD d = true then ∃ a kvs, x = .ref a ∧ H a = some (.dK kvs) ∧ ∀ p ∈ kvs, valV kvs p.1 = some p.2 ∧ flatB p.2 = true else SeqAt.shaped d = true ∧ PyData.eqv d d = true)) ∧ Q (.bl true) H
theorem op_eqQ {X : Cx} (hu : X.A.units + 64 < cLine) : OpR X (compareOp .Eq) rEqQ := by
  intro pins s σ H x y v u Q I rx ry h
  obtain ⟨rfl, ⟨d, q, c⟩, k⟩ := h
  split at c
  · obtain ⟨a, kvs, rfl, e, all⟩ := c
    refine op_eqV hu pins s σ H _ _ v u Q I rx ry ⟨1, by decide, .inr ⟨a, a, kvs, kvs, rfl, rfl, e, e, rfl, fun p hp => ⟨p.2, (all p hp).1, .inl ⟨rfl, (all p hp).2⟩⟩⟩, k⟩
  · rename_i nd
    have nd' : isD d = false := by simpa using nd
    refine op_eqD hu pins s σ H _ _ v u Q I rx ry ⟨d, d, q.dp nd', q.dp nd', c.1, c.1, ?_⟩
    rw [c.2]
    exact k
/-- x == y, two that differ -/
def rNeQ : R2 := fun x y H Q => (∃ d e, Dq H x d ∧ Dq H y e ∧ isD e = false ∧ (if isD d = true then (∃ a kvs, x = .ref a ∧ H a = some (.dK kvs)) ∧ ((∃ z, y = .str z) ∨ (∃ i, y = .int i) ∨ ∃ t xs, y = .ref t ∧ H t = some (.tup xs))
  else SeqAt.shaped d = true ∧ SeqAt.shaped e = true ∧ PyData.eqv d e = false)) ∧ Q (.bl false) H
theorem op_neQ {X : Cx} (hu : X.A.units + 64 < cLine) : OpR X (compareOp .Eq) rNeQ := by
  intro pins s σ H x y v u Q I rx ry h
  obtain ⟨⟨d, e, q1, q2, ne, c⟩, k⟩ := h
  split at c
  · exact op_noDict (by omega) pins s σ H _ _ v u Q I rx ry ⟨c.1, c.2, k⟩
  · rename_i nd
    refine op_eqD hu pins s σ H _ _ v u Q I rx ry ⟨d, e, q1.dp (by simpa using nd), q2.dp ne, c.1, c.2.1, ?_⟩
    rw [c.2.2]
    exact k
end CT
namespace CT
open PySem PySem.Spec PyProof.Rows L2
open He (ga ma fAd)

/-! ### f(..) with defaults -/
def ClD (P : Program) (w : World) (K : PySem.W.Frag) (mg : Str → Option Value) (base : Heap) (CX : CXT) (k : Nat) (x : Str) (sp : Sp) (dvs : List V) : Prop :=
  ∃ f fd ps ds, FnOk P w K mg base CX k f fd ps sp ∧ mg x = some (.ref f) ∧ PySem.W.keepIn K (.ref f) = true ∧ Binds K fd ps ds ∧ Vals dvs ds
section
variable {X : Cx} {CX : CXT} {j k : Nat} {x : Str} {sp : Sp} {E : XK} {p pos apos : Pos} {e o : Expr} {es : List Expr} {t : TA} {to : TE} {dvs : List V}
theorem pe_fd (c : ClD X.prog X.w X.K X.mg X.base CX k x sp dvs) (hr : Room j X.A) (hk : k ≤ j) (hx : Passes CX X E) (ha : PA X (e :: es) t) (hg : Gl X x := by rfl)
    (hdb : (x == ("__debug__" : Str)) = false := by decide) (he : starEach (e :: es) X.env = (false, eval e X.env) :: starEach es X.env := by rfl)
    (hpl : (backTo pos (starEach es X.env)).any (·.1) = false := by rfl) : PE X (.Call (.Name x p) (e :: es) [] pos) (tCall sp dvs E t) := by
  obtain ⟨f, fd, ps, ds, F, hm, kp, b, v⟩ := c
  exact pe_call F (hr.mono hk) hg hm kp b v hx ha hdb he hpl
theorem pe_popk {K' : PySem.W.Frag} (hK : X.K = K') (ho : PE X o to) (ha : PA X (e :: es) t)
    (hbase : attributeBase o "pop" X.env (eval o X.env) = eval o X.env := by rfl)
    (hfew : ((backTo pos (starEach (e :: es) X.env)).all (fun x => !x.1) && (backToKw pos (keywordEach [] X.env)).all (fun x => x.1.isSome)
      && decide ((e :: es).length + ([] : List Keyword).length + (if ([] : List Keyword).isEmpty then 0 else 1) < 30)) = true := by rfl)
    (hline : (apos.endLine == pos.line) = true := by rfl) (hs : starEach (e :: es) X.env = (false, eval e X.env) :: starEach es X.env := by rfl) (hplain : (backTo pos (starEach es X.env)).any (·.1) = false := by rfl) :
    PE X (.Call (.Attribute o "pop" apos) (e :: es) [] pos) (tBM K' "list" rPopAt to t) := by
  subst hK
  exact pe_bm F.plainAttrs_list F.slot_list_pop F.type_list_pop mt_popAt ho ha hbase hfew hline hs hplain
theorem pe_joinSk {K' : PySem.W.Frag} {te : TE} (hK : X.K = K') (ho : PE X o to) (he : PE X e te) (hs : starEach [e] X.env = [(false, eval e X.env)] := by rfl) (hbase : attributeBase o "join" X.env (eval o X.env) = eval o X.env := by rfl) (hline : (apos.endLine == pos.line) = true := by rfl) :
    PE X (.Call (.Attribute o "join" apos) [e] [] pos) (L2.tM1 (rJoin K') to te) := by
  subst hK
  exact pe_join ho he hs hbase hline
theorem pe_isalpha (ho : PE X o to) (hbase : attributeBase o "isalpha" X.env (eval o X.env) = eval o X.env := by rfl) (hline : (apos.endLine == pos.line) = true := by rfl) : PE X (.Call (.Attribute o "isalpha" apos) [] [] pos) (L2.tM0 (rS0 fun a => .bl (Txt.isalpha a)) to) :=
  pe_m0 F.slot_str_isalpha F.type_str_isalpha mt_isalpha ho hbase hline
theorem pe_islower (ho : PE X o to) (hbase : attributeBase o "islower" X.env (eval o X.env) = eval o X.env := by rfl) (hline : (apos.endLine == pos.line) = true := by rfl) : PE X (.Call (.Attribute o "islower" apos) [] [] pos) (L2.tM0 (rS0 fun a => .bl (Txt.islower a)) to) :=
  pe_m0 F.slot_str_islower F.type_str_islower mt_islower ho hbase hline
end
section
variable {σ : L2.St} {H : Hp} {Q : VK} {K : PySem.W.Frag}
theorem go_calld {sp : Sp} {dvs : List V} {E : XK} {t : TA} (k : t σ H fun vs H1 => sp (vs ++ dvs) H1 Q E) : tCall sp dvs E t σ H Q := k
theorem pass_none {P : Program} {w : World} {X : Cx} : Passes (L2.CX P w) X (fun _ _ _ => False) := fun _ _ _ _ _ _ _ h => by
  obtain ⟨_, _, _, _, _, _, _, _, _, _, _, _, z⟩ := h
  exact z.elim
/-! ### xs.pop(i) -/
def rBMP (K : PySem.W.Frag) (t : TA) (σ : L2.St) (x : V) (H1 : Hp) (Q : VK) : Prop := tyV K "list" x H1 ∧ t σ H1 fun xs H2 => rPopAt x xs H2 Q
theorem go_bmp {to : TE} {t : TA} (k : to σ H fun x H1 => rBMP K t σ x H1 Q) : tBM K "list" rPopAt to t σ H Q := k
theorem go_bmpx {l : Addr} {xs : List V} {t : TA} (h : SqL K H l xs) (k : t σ H fun vs H2 => rPopAt (.ref l) vs H2 Q) : rBMP K t σ (.ref l) H Q := ⟨.inl ⟨rfl, xs, h⟩, k⟩
theorem go_popat {l : Addr} {xs : List V} {j : Nat} {y : V} (h : H l = some (.lst xs)) (hj : xs[j]? = some y) (sz : xs.length ≤ 100000) (k : ∀ H', Kp l H H' → H' l = some (.lst (xs.eraseIdx j)) → Q y H') : rPopAt (.ref l) [.int (j : Nat)] H Q := by
  have hl := (List.getElem?_eq_some_iff.mp hj).1
  refine ⟨l, xs, _, j, y, rfl, rfl, h, by omega, by omega, ?_, hj, k _ Kp.put upd_same⟩
  unfold seqIndex?
  simp
  omega
/-- a display of one text and its value -/
theorem disp1_gm {z : Str} {v : V} (k : ∀ p H', H p = none → Same H H' → H' p = some (.dK [(.inr z, v)]) → Q (.ref p) H') : tDisp [(tC (.str z), tC v)] σ H Q := by
  intro p np
  refine ⟨upd_same, [(.inr z, v)], rfl, Nat.le_of_ble_eq_true rfl, ?_⟩
  rw [show mergeK [] [((.inr z : Key), v)] = [(.inr z, v)] from rfl, upd_upd]
  exact k p _ np (Same.new np) upd_same
/-! ### a list taken apart -/
theorem go_glst {n : Nat} {t : TGs} {a : Addr} {xs : List V} {R : St → Hp → Prop} (h : SqL K H a xs) (e : xs.length = n) (k : t xs σ H R) : gLst K n t (.ref a) σ H R := ⟨a, xs, rfl, h, e, k⟩
/-! ### a place to cut -/
def tMark (t : TS) : TS := fun D σ H => t D σ H
theorem mark_R {t : TS} {D : Ends} (R : St → Hp → Prop) (h : ∀ σ' H', R σ' H' → D.nx σ' H') (k : (∀ σ' H', R σ' H' → D.nx σ' H') → t D σ H) : tMark t D σ H := k h
theorem mark_N {t : TS} {D : Ends} (R : St → Hp → Prop) (h : ∀ σ' H', R σ' H' → D.nx σ' H') (k : ∀ N : St → Hp → Prop, (∀ σ' H', R σ' H' → N σ' H') → t { D with nx := N } σ H) : tMark t D σ H := k D.nx h
theorem go_unmark {t : TS} {D : Ends} (k : t D σ H) : tMark t D σ H := k
theorem ps_mark {X : Cx} {st : Stmt} {t : TS} (h : PS X st t) : PS X st (tMark t) := h
/-! ### texts put together -/
def rAddS : R2 := fun x y H Q => ∃ i j, x = .str i ∧ y = .str j ∧ i.length + j.length ≤ sizeLine ∧ Q (.str (i ++ j)) H
theorem op_addS {X : Cx} : OpR X (binaryOp .Add) rAddS := op_add_str
theorem go_adds {a b : Str} (hl : a.length + b.length ≤ 10000000) (k : Q (.str (a ++ b)) H) : rAddS (.str a) (.str b) H Q :=
  ⟨a, b, rfl, rfl, Nat.le_trans hl (by decide), k⟩
theorem go_strI' {i : Int} {R : Int → Prop} (k : R i) : ∃ j, V.int i = .int j ∧ R j := ⟨i, rfl, k⟩
/-! ### a comprehension over a range that changes what stands -/
theorem lcRangeG {j n : Nat} {vs : List Nat} {te : TE} (Pv : Addr → Nat → List V → Hp → Prop) (hn : n ≤ 100000) (hw : ∀ v, wipe ((wipe σ vs).set j (some v)) vs = wipe σ vs)
    (h0 : ∀ D H', H D = none → Same H H' → H' D = some (.lst []) → Pv D 0 [] H')
    (hs : ∀ D i acc H' (Q' : VK), i < n → H D = none → acc.length = i → Pv D i acc H' → H' D = some (.lst acc) →
      (∀ y H2, H2 D = some (.lst acc) → (∀ H3, Kp D H2 H3 → H3 D = some (.lst (acc ++ [y])) → Pv D (i + 1) (acc ++ [y]) H3) → Q' y H2) → te ((wipe σ vs).set j (some (.int i))) H' Q')
    (k : ∀ D acc H', H D = none → acc.length = n → Pv D n acc H' → H' D = some (.lst acc) → Q (.ref D) H') : rLc (Itr 0 n) (gName j) tYes te vs σ H Q := by
  intro D nD
  refine lc_range (lo := 0) (n := n) (fun i H' => ∃ acc, acc.length = i ∧ H' D = some (.lst acc) ∧ Pv D i acc H') ⟨[], rfl, upd_same, h0 D _ nD (Same.new nD) upd_same⟩ ?_ fun H' ⟨acc, e, d, p⟩ => k D acc H' nD e p d
  rintro i H' hi ⟨acc, e, d, p⟩
  refine ⟨hw _, ?_⟩
  refine go_yes ?_
  refine iteT ?_
  rw [Int.zero_add]
  refine hs D i acc H' _ hi nD e p d fun y H2 d2 g => ?_
  refine ⟨acc, d2, ?_, acc ++ [y], ?_, upd_same, g _ Kp.put upd_same⟩
  · rw [e]
    exact Nat.lt_of_lt_of_le (Nat.lt_of_lt_of_le hi hn) (by decide)
  · rw [List.length_append, e]
    rfl
theorem go_nnF {A B : Prop} (k : B) : if (!!false) = true then A else B := iteF k
theorem go_nnT {A B : Prop} (k : A) : if (!!true) = true then A else B := iteT k
theorem scal_bl {a b : Bool} (k : Q (.bl (decide (a = b))) H) : rEq (.bl a) (.bl b) H Q := by
  refine ⟨rfl, ?_⟩
  have e : decide (V.bl a = V.bl b) = decide (a = b) := decide_eq_decide.mpr ⟨fun h => by cases h; rfl, fun h => by rw [h]⟩
  rw [e]
  exact k
theorem scal_nbl {a b : Bool} (k : Q (.bl (!decide (a = b))) H) : rNe (.bl a) (.bl b) H Q := by
  refine ⟨rfl, ?_⟩
  have e : decide (V.bl a = V.bl b) = decide (a = b) := decide_eq_decide.mpr ⟨fun h => by cases h; rfl, fun h => by rw [h]⟩
  rw [e]
  exact k
end
end CT
namespace CT
open PySem PySem.Spec PyProof.Rows L2
open He (ga ma fAd)

/-! ### a class whose __init__ takes a star -/
section
variable {P : Program} {w : World} {K : PySem.W.Frag} {mg : Str → Option Value} {base : Heap} {x qual : Str} {params : Arguments} {body : List Stmt} {scope : Scope} {f : Addr} {fd : FuncData} {CX : CXT} {k : Nat}
def spStar1 (sp : Sp) : Sp := fun vs H Q E => ∃ ws rest, vs = ws ++ rest ∧ ws.length = 1 ∧ rest.length ≤ sizeLine ∧ ∀ p, H p = Option.none → sp (ws ++ [V.ref p]) (upd H p (.tup rest)) Q E
theorem _root_.L2.FunD.okS1 {N : List Str} {sp : Sp} {s1 pv : Str} (F : L2.FunD K x qual params body scope [] [] f fd) (S : FnScope N ([s1] ++ [pv]) scope) (hCX : StX.CXUp CX)
    (hb : ∀ (kV doc pm : Value) (an : Option Addr) (cdv ct : Value) (us rest : List Value), us.length = [s1].length → bindArgs (PySem.W.fnOf x qual params body scope .none kV doc pm an cdv ct) ⟨us ++ rest, []⟩ = (newTuple rest >>= fun t => pure ([s1].zip us ++ [(pv, t)])))
    (hbody : ∀ (cdv : Value) (A : Around) (outer : List Env) (s : Shared) (H : Hp) (vs : List V) (Q : VK) (E : XK), Room k (A.deeper (envOfC qual scope s.heap.objs.size f cdv)) → sp vs H Q E →
      ∃ t, PSs (cxOf CX P w K mg base N qual scope f cdv A outer s H E) body t ∧ t { nx := fun _ H' => Q .non H', rt := Q } (L2.start N vs) H) : FnR P w K mg base CX (k + 1) f (spStar1 sp) := by
  obtain ⟨oc, od, dV, kV, doc, pm, an, cdv, ct, osl, rfl, lk, hcd, hD, _⟩ := F.ex
  rcases hD with ⟨_, rfl⟩ | ⟨e, _⟩
  · exact StX.fn_star lk hcd S hCX (hb kV doc pm an cdv ct) fun A outer s H vs Q E hr hsp => hbody cdv A outer s H vs Q E hr hsp
  · exact absurd rfl e
/-- C(..), C's __init__ by its positional promise -/
def MkeS (P : Program) (w : World) (K : PySem.W.Frag) (mg : Str → Option Value) (base : Heap) (CX : CXT) (k : Nat) (x : Str) (sp : Sp) : Prop :=
  ∃ f, FnR P w K mg base CX k f sp ∧ Mk K (ga K x) f ∧ mg x = some (.ref (ga K x))
end
/-- a new instance, its arguments in a new tuple -/
def rMakeS (C : Addr) (sp : Sp) (E : XK) (vs : List V) (H1 : Hp) (Q : VK) : Prop := ∀ x dx, H1 x = Option.none → H1 dx = Option.none → dx ≠ x → sp (V.ref x :: vs) (upd (upd H1 dx (.own x)) x (.ins C dx [])) (fun v H2 => v = .non ∧ Q (.ref x) H2) E
section
variable {X : Cx} {CX : CXT} {j k i : Nat} {C : Addr} {sp : Sp} {E : XK} {x m : Str} {p pos sp_ : Pos} {e : Expr} {es : List Expr} {te : TE} {t : TA} {K' : PySem.W.Frag}
theorem pe_mkeS (hK : X.K = K') (c : MkeS X.prog X.w X.K X.mg X.base CX k x sp) (hr : Room j X.A) (hk : k + 1 ≤ j) (hx : Passes CX X E) (ha : PA X (e :: es) t) (hg : Gl X x := by rfl)
    (hdb : (x == ("__debug__" : Str)) = false := by decide) (he : starEach (e :: es) X.env = (false, eval e X.env) :: starEach es X.env := by rfl)
    (hpl : (backTo pos (starEach es X.env)).any (·.1) = false := by rfl) : PE X (.Call (.Name x p) (e :: es) [] pos) (StX.tMakeR (ga K' x) sp E t) := by
  subst hK
  obtain ⟨f, F, M, hm⟩ := c
  exact StX.pe_makeR M F (hr.mono hk) hg hm hx ha hdb he hpl
/-- C(*y) -/
def tMakeT (K : PySem.W.Frag) (C : Addr) (sp : Sp) (E : XK) (te : TE) : TE := fun σ H Q => te σ H fun y H1 => ∃ a xs, y = V.ref a ∧ (SqT K H1 a xs ∨ SqL K H1 a xs) ∧ rMakeS C sp E xs H1 Q
theorem pe_mkeT (hK : X.K = K') (c : MkeS X.prog X.w X.K X.mg X.base CX k x sp) (hr : Room j X.A) (hk : k + 1 ≤ j) (hx : Passes CX X E) (he : PE X e te) (hg : Gl X x := by rfl) (hd : (x == ("__debug__" : Str)) = false := by decide)
    (hst : starEach [.Starred e sp_] X.env = [(true, eval e X.env)] := by rfl) : PE X (.Call (.Name x p) [.Starred e sp_] [] pos) (tMakeT K' (ga K' x) sp E te) := by
  subst hK
  obtain ⟨f, F, M, hm⟩ := c
  refine ⟨fun pins s σ H Q I h => ?_⟩
  refine wpAny_Call_Name_kw (ld_glob I hg hm ?_ hd)
  refine PySem.W.callWith_S (h₀ := X.base) I.ok.mod.kin M.kp (thn (he.run pins s σ H _ I h) fun v s1 ⟨y, H1, I1, ry, a, xs, ey, hxs, q⟩ => ?_) hst
  subst ey
  obtain rfl : v = Value.ref a := ry
  exact StX.star_any I1 hxs fun us s2 I2 rv => ⟨I2.kIn, StX.run_makeR M F (hr.mono hk) hx I2 rv q⟩
/-- cls(*y), where a slot holds the class -/
def tMakeTL (K : PySem.W.Frag) (i : Nat) (C : Addr) (sp : Sp) (E : XK) (te : TE) : TE := fun σ H Q => σ[i]? = some (some (.ref C)) ∧ tMakeT K C sp E te σ H Q
theorem pe_mkeTL {x' : Str} (hK : X.K = K') (c : MkeS X.prog X.w X.K X.mg X.base CX k x' sp) (hr : Room j X.A) (hk : k + 1 ≤ j) (hx : Passes CX X E) (hN : X.N[i]? = some x) (he : PE X e te)
    (hv : Vis X.env.scope x := by first | exact Or.inl rfl | exact Or.inr (Or.inl rfl) | exact Or.inr (Or.inr rfl)) (hdb : (x == ("__debug__" : Str)) = false := by decide) (hcd : (x == ("__classdict__" : Str)) = false := by decide)
    (hst : starEach [.Starred e sp_] X.env = [(true, eval e X.env)] := by rfl) : PE X (.Call (.Name x p) [.Starred e sp_] [] pos) (tMakeTL K' i (ga K' x') sp E te) := by
  subst hK
  obtain ⟨f, F, M, hm⟩ := c
  refine ⟨fun pins s σ H Q I ⟨hs, h⟩ => ?_⟩
  refine wpAny_Call_Name_kw (thn ((pe_var (pos := p) hN hv hdb hcd).run pins s σ H (fun v H1 => v = .ref (ga X.K x') ∧ H1 = H) I ⟨_, hs, rfl, rfl⟩) fun u s1 ⟨v, H1, I1, r1, q1⟩ => ?_)
  obtain ⟨rfl, rfl⟩ := q1
  cases r1
  refine PySem.W.callWith_S (h₀ := X.base) I.ok.mod.kin M.kp (thn (he.run pins s1 σ _ _ I1 h) fun v s2 ⟨y, H2, I2, ry, a, xs, ey, hxs, q⟩ => ?_) hst
  subst ey
  obtain rfl : v = Value.ref a := ry
  exact StX.star_any I2 hxs fun us s3 I3 rv => ⟨I3.kIn, StX.run_makeR M F (hr.mono hk) hx I3 rv q⟩
end
section
variable {σ : L2.St} {H : Hp} {Q : VK} {K : PySem.W.Frag} {C : Addr} {sp : Sp} {E : XK} {t : TA} {te : TE} {i : Nat}
theorem go_mkS (k : t σ H fun vs H1 => rMakeS C sp E vs H1 Q) : StX.tMakeR C sp E t σ H Q := k
def rMkT (K : PySem.W.Frag) (C : Addr) (sp : Sp) (E : XK) (y : V) (H1 : Hp) (Q : VK) : Prop := ∃ a xs, y = V.ref a ∧ (SqT K H1 a xs ∨ SqL K H1 a xs) ∧ rMakeS C sp E xs H1 Q
theorem go_mkT (k : te σ H fun y H1 => rMkT K C sp E y H1 Q) : tMakeT K C sp E te σ H Q := k
theorem go_mkTx {a : Addr} {xs : List V} (h : SqT K H a xs ∨ SqL K H a xs) (k : rMakeS C sp E xs H Q) : rMkT K C sp E (.ref a) H Q := ⟨a, xs, rfl, h, k⟩
theorem go_mkTL (e : σ[i]? = some (some (.ref C))) (k : tMakeT K C sp E te σ H Q) : tMakeTL K i C sp E te σ H Q := ⟨e, k⟩
theorem atN {α : Type} {n : Nat} {xs : List α} {v : α} (h : xs[n]? = some v) : atI xs (n : Int) = some v := by
  have hl := (List.getElem?_eq_some_iff.mp h).1
  unfold atI ixN
  simp only [Int.natCast_nonneg, decide_true, Bool.true_and]
  simp [hl]
  exact (List.getElem?_eq_some_iff.mp h).2
theorem ixNat {n j : Nat} (h : j < n) : ixN n (j : Int) = some j := by
  unfold ixN
  simp [h]
theorem slA_rest {a : Addr} {x : V} {xs : List V} (h : SqT K H a (x :: xs)) (k : ∀ p H', H p = none → Same H H' → H' p = some (.tup xs) → Q (.ref p) H') : rSlA K (.ref a) (some 1) none H Q := by
  have e1 : HT.sIx (x :: xs).length 0 (some 1) = 1 := by
    unfold HT.sIx
    simp
    try omega
  refine ⟨a, _, rfl, h, fun ⟨z, _⟩ => absurd (z.symm.trans e1) (by decide), fun _ p np => ?_⟩
  have e : cutV (x :: xs) (some 1) none = xs := cut_from (x :: xs) 1
  rw [e]
  exact k p _ np (Same.new np) upd_same
/-- some of a range are kept -/
theorem lcRangeIf {lo : Int} {j n : Nat} {vs : List Nat} {tt : TT} {te : TE} (c : Nat → Bool) (f : Nat → V) (hn : n ≤ 100000) (hw : ∀ v, wipe ((wipe σ vs).set j (some v)) vs = wipe σ vs)
    (ht : ∀ (i : Nat) (H' : Hp) (Q' : Bool → Hp → Prop), i < n → Same H H' → (∀ H'', Same H' H'' → Q' (c i) H'') → tt ((wipe σ vs).set j (some (.int (lo + i)))) H' Q')
    (hs : ∀ (i : Nat) (H' : Hp) (Q' : VK), i < n → c i = true → Same H H' → (∀ H'', Same H' H'' → Q' (f i) H'') → te ((wipe σ vs).set j (some (.int (lo + i)))) H' Q')
    (k : ∀ D H', H D = none → Same H H' → H' D = some (.lst (((List.range n).filter c).map f)) → Q (.ref D) H') : rLc (Itr lo n) (gName j) tt te vs σ H Q := by
  intro D nD
  refine lc_range (lo := lo) (n := n) (fun i H' => Same H H' ∧ H' D = some (.lst (((List.range i).filter c).map f))) ⟨Same.new nD, upd_same⟩ ?_ fun H' ⟨s, d⟩ => k D H' nD s d
  rintro i H' hi ⟨s, d⟩
  refine ⟨hw _, ?_⟩
  have e1 : (List.range (i + 1)).filter c = (List.range i).filter c ++ (if c i = true then [i] else []) := by
    rw [List.range_succ, List.filter_append]
    cases q : c i <;> simp [q]
  refine ht i H' _ hi s fun H1 s1 => ?_
  refine go_b (fun e => ?_) fun e => ?_
  · refine hs i H1 _ hi e (s.trans s1) fun H'' s2 => ?_
    refine ⟨_, s2 _ _ (s1 _ _ d), ?_, ?_, ?_⟩
    · rw [List.length_map]
      have q := List.length_filter_le c (List.range i)
      rw [List.length_range] at q
      exact Nat.lt_of_lt_of_le (Nat.lt_of_le_of_lt q (Nat.lt_of_lt_of_le hi hn)) (by decide)
    · exact fun b o h => (upd_ne (ne_of_none h nD)).trans (s2 _ _ (s1 _ _ (s _ _ h)))
    · rw [e1, if_pos e, List.map_append]
      exact upd_same
  · refine ⟨s.trans s1, ?_⟩
    rw [e1, if_neg (by rw [e]; exact Bool.false_ne_true), List.append_nil]
    exact s1 _ _ d
theorem in_ints {x : Int} (ns : List Int) : L2.inV (.int x) (ns.map V.int) = decide (x ∈ ns) := by
  induction ns with
  | nil => rfl
  | cons n ns ih =>
    unfold L2.inV at ih ⊢
    rw [List.map_cons, List.any_cons, ih]
    by_cases h : n = x
    · subst h
      simp [L2.eqV]
    · have : ¬ x = n := fun q => h q.symm
      simp [L2.eqV, h, this]
theorem flat_ints (ns : List Int) : (ns.map V.int).all L2.flatV = true := by
  rw [List.all_map]
  simp [L2.flatV, Function.comp_def]
theorem go_inInts {a : Addr} {x : Int} {ns : List Int} (h : SqL K H a (ns.map V.int) ∨ SqT K H a (ns.map V.int)) (k : Q (.bl (decide (x ∈ ns))) H) : rIn K false (.int x) (.ref a) H Q := by
  refine ⟨a, _, rfl, h, rfl, flat_ints ns, ?_⟩
  rw [in_ints]
  exact k
theorem go_maxI {a : Addr} {ns : List Int} (h : SqL K H a (ns.map V.int)) (ne : ns ≠ []) (k : ∀ m, m ∈ ns → (∀ y, y ∈ ns → y ≤ m) → Q (.int m) H) : rMax K [.ref a] H Q := ⟨a, ns, rfl, h, List.length_pos_iff.mpr ne, k⟩
def rTupOf (K : PySem.W.Frag) : List V → Hp → VK → Prop := fun xs H Q => ∃ p ys, xs = [.ref p] ∧ ((SqL K H p ys ∧ ∀ l, H l = none → Q (.ref l) (upd H l (.tup ys))) ∨ (SqT K H p ys ∧ Q (.ref p) H))
theorem call_tupOf {X : Cx} : CallR X (.type "tuple") (rTupOf X.K) := call_tuple_of
theorem go_tupofL {a : Addr} {ys : List V} (h : SqL K H a ys) (k : ∀ p H', H p = none → Same H H' → H' p = some (.tup ys) → Q (.ref p) H') : rTupOf K [V.ref a] H Q :=
  ⟨a, ys, rfl, .inl ⟨h, fun l nl => k l _ nl (Same.new nl) upd_same⟩⟩
theorem go_tupofT {a : Addr} {ys : List V} (h : SqT K H a ys) (k : Q (.ref a) H) : rTupOf K [V.ref a] H Q := ⟨a, ys, rfl, .inr ⟨h, k⟩⟩
theorem tyOf_same {H' : Hp} {v : V} {t : Value} (h : TyOf K H v t) (s : Same H H') : TyOf K H' v t := by
  cases h with
  | non => exact .non
  | bl x => exact .bl x
  | int x => exact .int x
  | str x => exact .str x
  | flt x => exact .flt x
  | lst e => exact .lst (s _ _ e)
  | frz e => exact .frz (s _ _ e)
  | tup e => exact .tup (s _ _ e)
  | dK e => exact .dK (s _ _ e)
  | dT e => exact .dT (s _ _ e)
  | ins e c a b d f => exact .ins (s _ _ e) c a b d f
theorem tyX_same {H' : Hp} {v : V} {t : Value} (h : TyX K H v t) (s : Same H H') : TyX K H' v t := by
  cases h with
  | base b => exact .base (tyOf_same b s)
  | byt b => exact .byt b
  | set e => exact .set (s _ _ e)
  | kList e c => exact .kList e c
  | kTuple e c => exact .kTuple e c
  | kDict e c => exact .kDict e c
  | fTuple e => exact .fTuple (s _ _ e)
  | fDict e => exact .fDict (s _ _ e)
end
theorem du_or : PySem.dunder Operator.BitOr.info.2 = ("__or__" : Str) := by decide +kernel
theorem dr_or : dunderR Operator.BitOr.info.2 = ("__ror__" : Str) := by decide +kernel
theorem du_and : PySem.dunder Operator.BitAnd.info.2 = ("__and__" : Str) := by decide +kernel
theorem dr_and : dunderR Operator.BitAnd.info.2 = ("__rand__" : Str) := by decide +kernel
/-! ### x in o, o of an own class with __contains__ -/
def rInO (C : Addr) (neg : Bool) (sp : Sp) (E : XK) : R2 := fun x y H Q => ∃ a dx fs, y = .ref a ∧ H a = some (.ins C dx fs) ∧ sp [y, x] H (fun v H' => ∃ b, v = .bl b ∧ Q (.bl (if neg = true then !b else b)) H') E
section
variable {X : Cx} {CX : CXT} {j k : Nat} {C : Addr} {sp : Sp} {E : XK}
theorem op_inO (c : Op X.prog X.w X.K X.mg X.base CX k C "__contains__" sp) (hr : Room j X.A) (hk : k ≤ j) (hx : Passes CX X E) : OpR X (compareOp .In) (rInO C false sp E) := by
  obtain ⟨f, fd, ps, F, h1, h2, b⟩ := c
  intro pins s σ H x y v u Q I rx ry h
  obtain ⟨a, dx, fs, rfl, ha, q⟩ := h
  cases (show u = Value.ref a from ry)
  obtain ⟨mA, J, _⟩ := ins_get I.hok ha
  obtain ⟨od, J, _⟩ := J.look
  obtain ⟨m, hF⟩ := I.fr
  refine PySem.W.in_K hF I.ok.mod.kin J h1 h2 (wpAny_mono (run_at F b (hr.mono hk) I.env0 hx I (us := [.ref a, v]) (vs := [.ref a, x]) (.cons rfl (.cons rx .nil)) q) (fun r s' z => ?_) fun _ _ y => y)
  obtain ⟨z', H', I', rz, bb, rfl, qz⟩ := z
  cases (show r = Value.bool bb from rz)
  exact wpAny_truthy_bool ⟨.bl bb, H', I', rfl, qz⟩
theorem op_notInOwn (c : Op X.prog X.w X.K X.mg X.base CX k C "__contains__" sp) (hr : Room j X.A) (hk : k ≤ j) (hx : Passes CX X E) : OpR X (compareOp .NotIn) (rInO C true sp E) := by
  obtain ⟨f, fd, ps, F, h1, h2, b⟩ := c
  intro pins s σ H x y v u Q I rx ry h
  obtain ⟨a, dx, fs, rfl, ha, q⟩ := h
  cases (show u = Value.ref a from ry)
  obtain ⟨mA, J, _⟩ := ins_get I.hok ha
  obtain ⟨od, J, _⟩ := J.look
  obtain ⟨m, hF⟩ := I.fr
  refine PySem.W.notIn_K hF I.ok.mod.kin J h1 h2 (wpAny_mono (run_at F b (hr.mono hk) I.env0 hx I (us := [.ref a, v]) (vs := [.ref a, x]) (.cons rfl (.cons rx .nil)) q) (fun r s' z => ?_) fun _ _ y => y)
  obtain ⟨z', H', I', rz, bb, rfl, qz⟩ := z
  cases (show r = Value.bool bb from rz)
  exact wpAny_truthy_bool ⟨.bl (!bb), H', I', rfl, qz⟩
end
section
variable {H : Hp} {Q : VK} {C a dx : Addr} {fs : List (Str × V)} {sp : Sp} {E : XK} {x : V}
theorem go_inO (h : H a = some (.ins C dx fs)) (k : sp [.ref a, x] H (fun v H' => ∃ b, v = .bl b ∧ Q (.bl b) H') E) : rInO C false sp E x (.ref a) H Q := ⟨a, dx, fs, rfl, h, k⟩
theorem go_notInO (h : H a = some (.ins C dx fs)) (k : sp [.ref a, x] H (fun v H' => ∃ b, v = .bl b ∧ Q (.bl (!b)) H') E) : rInO C true sp E x (.ref a) H Q := ⟨a, dx, fs, rfl, h, k⟩
end
section
variable {σ : L2.St} {H : Hp} {Q : VK} {C a dx : Addr} {fs : List (Str × V)} {sp : Sp} {E : XK} {ta : TE}
def rPrp (C : Addr) (sp : Sp) (E : XK) (x : V) (H1 : Hp) (Q : VK) : Prop := ∃ a dx fs, x = .ref a ∧ H1 a = some (.ins C dx fs) ∧ sp (.ref a :: []) H1 Q E
theorem go_prp (k : ta σ H fun x H1 => rPrp C sp E x H1 Q) : tProp C sp [] E ta σ H Q := k
theorem go_prpx (h : H a = some (.ins C dx fs)) (k : sp [.ref a] H Q E) : rPrp C sp E (.ref a) H Q := ⟨a, dx, fs, rfl, h, k⟩
end
end CT
namespace CT
open PySem PySem.Spec PyProof.Rows L2
open He (ga ma fAd)

/-! ### set(xs), xs a list of ints -/
section
variable {P : Program} {w : World} {A : Around} {E : Value → Shared → Prop} {s : Shared}
/-- a set that was just made -/
abbrev bare (w : World) : Obj := { cls := .type "set", dict := none, data := .set #[] 0 (.fresh 0 0 (!w.params.followText "set-order")) }
/-- what is known once the list has been gone through -/
def Filled (w : World) (s : Shared) (ns : List Int) (v : Value) (s2 : Shared) : Prop := v = .none ∧ ∃ hp tk c, s2 = { s with heap := hp, toks := tk } ∧ SetR w hp s.heap.objs.size (fun j => decide (j ∈ ns)) c ∧ c ≤ ns.length ∧ ∀ b o, s.heap.get? b = some o → hp.get? b = some o
theorem fill_set {l : Addr} {xs : Array Value} {ns : List Int} (noh : A.handled = none) (isl : s.heap.IsList l xs) (are : IntsAre xs.toList ns) (few : ns.length + 1 < scanBound) :
    codeAny (model P w) A (.call (.builtin "set.__init__") ⟨[.ref s.heap.objs.size, .ref l], []⟩) (wants (Filled w s ns) E) { s with heap := s.heap.push (bare w) } := by
  have many : xs.size = ns.length := by
    have z := IntsAre.length are
    rwa [Array.length_toList] at z
  have here : (s.heap.push (bare w)).get? s.heap.objs.size = some (bare w) := Heap.get?_push_size _ rfl
  have kind : Shared.TypeIs { s with heap := s.heap.push (bare w) } (.ref s.heap.objs.size) "set" := ⟨_, here, rfl⟩
  refine codeAny_call_builtin F.called_set.init.plain F.entry_set_init (check_set_init_1 kind ?_)
  have there := Heap.lt_size isl.choose_spec.1
  have isl2 : (s.heap.push (bare w)).IsList l xs := isl.push _
  obtain ⟨⟨k1, k2, k3, k4⟩, k5, k6, k7, k8⟩ := isl2
  cases k6
  cases k8
  have isl3 : (s.heap.push (bare w)).IsList l xs := ⟨_, k5, rfl, _, rfl⟩
  have sub1 := F.sub_list_set
  have sub2 := F.sub_list_frozenset
  have noDict : (Value.type "list" == Value.type "dict") = false := by decide
  unfold Builtin.«set.__init__» noKeywords Builtin.Frozenset.updateFrom
  generalize walk : pyIter = walker
  wp_walk
  subst walk
  refine wpAny_pyIter_list isl3 (wpAny_bind (wpAny_runValue ?_))
  have size2 : (s.heap.push (bare w)).objs.size = s.heap.objs.size + 1 := Heap.size_push ..
  have noh3 : A.in1.in1.handled = none := by simp [noh]
  have apart : l ≠ (s.heap.push (bare w)).objs.size := Nat.ne_of_lt (by rw [size2]; exact Nat.lt_succ_of_lt there)
  refine set_update_ints ((Walks.list noh3 _ l apart xs).toS) s.heap.objs.size (fun z => ?_) ns many few (fun i v hv => ?_) (xs.size - 0) 0 _ (by omega) (Nat.zero_le _) ?_ ?_ (fun s2 c2 mv lc R2 => ?_)
  · rcases List.mem_cons.mp z with z | z
    · exact absurd z (Nat.ne_of_lt (by rw [size2]; exact Nat.lt_succ_self _))
    · exact absurd (List.mem_singleton.mp z) (Nat.ne_of_gt there)
  · have lt : i < ns.length := many ▸ (Array.getElem?_eq_some_iff.mp hv).1
    obtain ⟨tk, e⟩ := PyProof.Rows.IntsAre.int_at are i v (by rwa [Array.getElem?_toList])
    refine ⟨ns[i], tk, List.getElem?_eq_getElem lt, e.trans ?_⟩
    simp [List.getD_eq_getElem?_getD, lt]
  · exact ⟨⟨_, Heap.get?_push_size _ rfl, rfl, rfl⟩, isl3.push _⟩
  · exact ⟨0, Nat.le_refl 0, setR_new_at (w := w) (Heap.get?_push_of_some _ here)⟩
  · obtain ⟨h2, g2, d2, t2, o2⟩ := s2
    cases (show g2 = s.gens from mv.gens)
    cases (show d2 = s.drawn from mv.drawn)
    cases (show o2 = s.os from mv.os)
    show wpAny _ _ _ _ _ _
    refine wpAny_pure ?_
    show wpAny _ _ (ret Value.none) _ _ _
    refine wpAny_pure ⟨rfl, h2, t2, c2, rfl, R2, many ▸ lc, fun b o e => mv.heap b o (fun z => ?_) (Heap.get?_push_of_some _ (Heap.get?_push_of_some _ e))⟩
    have low := Heap.lt_size e
    rcases List.mem_cons.mp z with z | z
    · exact absurd z (Nat.ne_of_lt low)
    · exact absurd (List.mem_singleton.mp z) (Nat.ne_of_lt (by rw [size2]; exact Nat.lt_succ_of_lt low))
theorem set_of_list {l : Addr} {xs : Array Value} {ns : List Int} {Q : Value → Shared → Prop} (noh : A.handled = none) (isl : s.heap.IsList l xs) (are : IntsAre xs.toList ns) (few : ns.length + 1 < scanBound)
    (fin : ∀ hp tk c, SetR w hp s.heap.objs.size (fun j => decide (j ∈ ns)) c → c ≤ ns.length → (∀ b o, s.heap.get? b = some o → hp.get? b = some o) → Q (.ref s.heap.objs.size) { s with heap := hp, toks := tk }) :
    wpAny (model P w) A (call (.type "set") [.ref l]) Q E s := by
  obtain ⟨cm, tm, em⟩ := F.called_set.mro
  have f1 := F.called_set.made
  have f2 := F.called_set.sub
  have f3 := F.called_set.notType
  have f4 := F.called_set.canCreate
  have f5 := F.typeCall_set_1 (.ref l)
  refine wpAny_call (codeAny_of_tree ?_)
  show wpAny _ _ (callAny (.type "set") _) _ _ _
  refine wpAny_pure ⟨Code.quiet_builtin _ (by decide +kernel), codeAny_builtin F.entry_type_call ?_⟩
  rw [Around.under_plain (weight_type_call_type "set" [.ref l] []) rfl]
  repeat any_goals first | assumption | wp_step
  refine codeAny_mono (code_set_led1 (.ref l) (E := E) (Q₁ := fun v s1 => v = .ref s.heap.objs.size ∧ s1 = { s with heap := s.heap.push (bare w) }) ⟨rfl, rfl⟩) fun r s1 hr => ?_
  cases r with
  | error e => exact hr
  | ok fl => ?_
  cases fl with
  | ret v =>
    obtain ⟨rfl, rfl⟩ := hr
    have kind : Shared.TypeIs { s with heap := s.heap.push (bare w) } (.ref s.heap.objs.size) "set" := ⟨_, Heap.get?_push_size _ rfl, rfl⟩
    have f6 := F.called_set.init.lookup
    have f7 := F.called_set.init.bind (.ref s.heap.objs.size)
    repeat any_goals first | assumption | wp_step
    refine codeAny_mono (fill_set (E := E) (by simpa using noh) isl are few) fun r2 s2 h2 => ?_
    cases r2 with
    | error e => exact h2
    | ok fl2 => ?_
    cases fl2 with
    | ret v2 =>
      obtain ⟨rfl, hp, tk, c, rfl, R, lc, kp⟩ := h2
      repeat any_goals first | assumption | wp_step
      exact fin hp tk c R lc kp
    | _ => exact h2.elim
  | _ => exact hr.elim
end
def rSetI (K : PySem.W.Frag) (w : World) : List V → Hp → VK → Prop := fun vs H Q => ∃ (l : Addr) (ns : List Int), vs = [.ref l] ∧ SqL K H l (ns.map V.int) ∧ ns.length < 64 ∧
  ∀ p n, n ≤ ns.length → H p = none → Q (.ref p) (upd H p (SetO w p (fun j => decide (j ∈ ns)) n))
theorem cr_setI {X : Cx} (hc : X.calm = true) : CallR X (.type "set") (rSetI X.K X.w) := by
  intro pins s σ H vs us Q I r h
  obtain ⟨l, ns, rfl, hl, few, q⟩ := h
  rw [Vals.ref1 r]
  obtain ⟨its, rv, pl, _⟩ := I.list hl
  refine set_of_list (ns := ns) (I.ok.hd hc) pl.isList (ints_of_vals rv) (by unfold scanBound; omega) fun hp tk c R lc kp => ?_
  exact ⟨.ref _, upd H s.heap.objs.size (SetO X.w s.heap.objs.size (fun j => decide (j ∈ ns)) c), I.laid (t' := tk) kp (Nat.le_refl _) (setO_new R), rfl, q _ c lc (I.hok.fresh (Nat.le_refl _))⟩
theorem go_setI {K : PySem.W.Frag} {w : World} {H : Hp} {Q : VK} {l : Addr} {ns : List Int} (h : SqL K H l (ns.map V.int)) (few : ns.length < 64) (k : ∀ p n H', n ≤ ns.length → H p = none → Same H H' → H' p = some (SetO w p (fun j => decide (j ∈ ns)) n) → Q (.ref p) H') : rSetI K w [.ref l] H Q :=
  ⟨l, ns, rfl, h, few, fun p n ln np => k p n _ ln np (Same.new np) upd_same⟩
theorem go_sortedSet {w : World} {H : Hp} {Q : VK} {a : Addr} {S : Int → Bool} {n : Nat} (h : H a = some (SetO w a S n)) (few : n < 64) (k : ∀ (ns : List Int) p H', ns.Pairwise (· < ·) → (∀ i : Int, i ∈ ns ↔ S i = true) → H p = none → Same H H' → H' p = some (.lst (ns.map V.int)) → Q (.ref p) H') : rSortedSet w [.ref a] H Q :=
  ⟨a, S, n, rfl, h, few, fun ns p pw mm _ np => k ns p _ pw mm np (Same.new np) upd_same⟩
end CT
namespace CT
open PySem PySem.Spec PyProof.Rows L2
/-! dicts with ints as keys: put, get with a default -/
theorem hu1 {k : Nat} {A : Around} (r : Room k A) : A.units + 1 < cLine := by
  have := r.un
  omega
section
variable {H : Hp} {Q : VK} {σ : L2.St} {a : Addr} {kvs : List (Key × V)} {i : Int} {v : V}
theorem go_dput {R : Hp → Prop} (h : H a = some (.dK kvs)) (hl : kvs.length ≤ 1000) (k : ∀ H', Kp a H H' → H' a = some (.dK (putK kvs (Sum.inl i) v)) → R H') : rSetD (.ref a) (.int i) v H R :=
  ⟨a, _, rfl, DPut.k (k := Sum.inl i) h (Nat.lt_of_le_of_lt hl (by decide)), k _ Kp.put upd_same⟩
theorem go_dget2 {td ty tx : TE} (k : td σ H fun x H1 => ∃ a, x = .ref a ∧ IsD H1 a ∧ ty σ H1 fun y H2 => tx σ H2 fun z H3 => ∃ o, DGet H3 a y o ∧ Q (o.getD z) H3) : tDGet2 td ty tx σ H Q := k
theorem go_dgetI {z : V} (h : H a = some (.dK kvs)) (k : Q ((valV kvs (Sum.inl i)).getD z) H) : ∃ o, DGet H a (.int i) o ∧ Q (o.getD z) H := ⟨_, DGet.k (k := Sum.inl i) h, k⟩
end
end CT
namespace CT
open PySem PySem.Spec PyProof.Rows L2
/-! ### dicts walked: locked while the walk lasts -/
section
variable {H H' : Hp} {Q : VK} {σ : L2.St} {K : PySem.W.Frag} {d : Addr} {kvs : List (Key × V)} {i j : Nat}
theorem lock_back {u : HO} {od : Obj} (h : H d = some u) (s : Same (upd H d (.frz od u)) H') : Same H (upd H' d u) := fun b o hb => by
  by_cases e : b = d
  · subst e
    rw [upd_same]
    rw [h] at hb
    exact hb
  · rw [upd_ne e]
    exact s b o (by rw [upd_ne e]; exact hb)
theorem lock_kp {u : HO} {od : Obj} (s : Same (upd H d (.frz od u)) H') : Kp d H H' := fun b o hb n => s b o (by rw [upd_ne n]; exact hb)
/-- for k in d: what was tracked stays -/
theorem forKeysL {g : TG} {tb : TS} {D : Ends} (hd : H d = some (.dK kvs)) (hσ : σ[i]? = some (some (.ref d))) (S : Nat → St → Prop) (h0 : S 0 σ)
    (hs : ∀ (od : Obj) (n : Nat) (k : Key) (v : V) (σ' : St) (Hl : Hp) (D' : Ends), kvs[n]? = some (k, v) → Hl d = some (.frz od (.dK kvs)) → Kp d H Hl → S n σ' → (∀ σ2 H2, Same Hl H2 → S (n + 1) σ2 → D'.nx σ2 H2) → g (kV k) σ' Hl fun σ2 H2 => tb D' σ2 H2)
    (hn : ∀ σ' H', Same H H' → S kvs.length σ' → D.nx σ' H') : tLock (tFor (iKeys (tVar i)) g tb) D σ H := by
  refine ⟨d, _, hd, trivial, fun od => ?_⟩
  refine ⟨_, hσ, d, od, rfl, .inl ⟨kvs, upd_same, ?_⟩⟩
  refine for_it walk_keys (fun n σ' Hl => Hl d = some (.frz od (.dK kvs)) ∧ Same (upd H d (.frz od (.dK kvs))) Hl ∧ S n σ') ⟨upd_same, Same.refl _, h0⟩ (fun _ _ _ _ p => p.1) ?_ ?_
  · rintro n x σ' Hl Hl' hi ⟨hl, sl, s⟩ ⟨rfl, k, v, hk, rfl⟩
    exact hs od n k v σ' Hl' _ hk hl (lock_kp sl) s fun σ2 H2 s2 q => ⟨s2 _ _ hl, sl.trans s2, q⟩
  · rintro σ' Hl ⟨hl, sl, s⟩
    exact ⟨hl, hn _ _ (lock_back hd sl) s⟩
/-- [.. for k in d] -/
theorem lcKeysL {vs : List Nat} {te : TE} (f : Key → V → V) (hd : H d = some (.dK kvs)) (hl : kvs.length ≤ 100000) (hσ : σ[i]? = some (some (.ref d))) (hw : ∀ v, wipe ((wipe σ vs).set j (some v)) vs = wipe σ vs)
    (hs : ∀ (od : Obj) (k : Key) (v : V) (Hl : Hp) (Q' : VK), (k, v) ∈ kvs → Hl d = some (.frz od (.dK kvs)) → Kp d H Hl → (∀ H'', Same Hl H'' → Q' (f k v) H'') → te ((wipe σ vs).set j (some (kV k))) Hl Q')
    (k : ∀ D H', H D = none → Same H H' → H' D = some (.lst (kvs.map fun p => f p.1 p.2)) → Q (.ref D) H') : tLockE (tLc (iKeys (tVar i)) (gName j) tYes te vs) σ H Q := by
  refine ⟨d, _, hd, trivial, fun od => ?_⟩
  refine ⟨_, hσ, d, od, rfl, .inl ⟨kvs, upd_same, ?_⟩⟩
  intro D nD
  have Dd : D ≠ d := fun e => by rw [e, upd_same] at nD; cases nD
  have nDH : H D = none := by rw [upd_ne Dd] at nD; exact nD
  refine lc_it walk_keys (fun n Hl => Hl d = some (.frz od (.dK kvs)) ∧ Same (upd H d (.frz od (.dK kvs))) Hl ∧ Hl D = some (.lst ((kvs.take n).map fun p => f p.1 p.2))) ⟨?_, Same.new nD, upd_same⟩ (fun _ _ _ p => p.1) ?_ ?_
  · rw [upd_ne (Ne.symm Dd)]
    exact upd_same
  · rintro n x Hl Hl' hi ⟨h1, sl, h2⟩ ⟨rfl, k', v, hk, rfl⟩
    refine ⟨hw _, ?_⟩
    refine go_yes ?_
    refine iteT ?_
    refine hs od k' v Hl' _ (List.mem_of_getElem? hk) h1 (lock_kp sl) fun H'' s2 => ?_
    refine ⟨_, s2 _ _ h2, ?_, ?_, ?_, ?_⟩
    · rw [List.length_map, List.length_take]
      exact Nat.lt_of_lt_of_le (Nat.lt_of_lt_of_le (show min n kvs.length < kvs.length by omega) hl) (by decide)
    · rw [upd_ne (Ne.symm Dd)]
      exact s2 _ _ h1
    · exact fun b o h => (upd_ne (ne_of_none h nD)).trans (s2 _ _ (sl _ _ h))
    · rw [List.take_add_one, hk, List.map_append]
      exact upd_same
  · rintro Hl ⟨h1, sl, h2⟩
    rw [List.take_length] at h2
    refine ⟨h1, k D _ nDH (lock_back hd sl) ?_⟩
    rw [upd_ne Dd]
    exact h2
def rDGet (x y : V) (H : Hp) (Q : VK) : Prop := ∃ a v, x = .ref a ∧ DGet H a y (some v) ∧ Q v H
theorem go_dget {td ty : TE} (k : td σ H fun x H1 => ty σ H1 fun y H2 => rDGet x y H2 Q) : tDGet td ty σ H Q := k
theorem go_dgetx {a : Addr} {k : Key} {v y : V} (h : Rd H a (.dK kvs)) (ey : y = kV k) (e : valV kvs k = some v) (q : Q v H) : rDGet (.ref a) y H Q := ⟨a, v, rfl, .inl ⟨kvs, k, h, ey, e.symm⟩, q⟩
def rRevL (K : PySem.W.Frag) (x : V) (H : Hp) (Q : VK) : Prop := ∃ a xs, x = .ref a ∧ SqL K H a xs ∧ ∀ p, H p = none → Q (.ref p) (upd H p (.lst xs.reverse))
theorem go_revL {te : TE} (k : te σ H fun x H1 => rRevL K x H1 Q) : tRevL K te σ H Q := k
theorem go_revx {a : Addr} {xs : List V} (h : SqL K H a xs) (k : ∀ p H', H p = none → Same H H' → H' p = some (.lst xs.reverse) → Q (.ref p) H') : rRevL K (.ref a) H Q :=
  ⟨a, xs, rfl, h, fun p n => k p _ n (Same.new n) upd_same⟩
theorem go_sum {a : Addr} {ns : List Int} (h : SqL K H a (ns.map V.int)) (k : Q (.int ns.sum) H) : rSum K [.ref a] H Q := ⟨a, ns, rfl, h, k⟩
/-- two dicts with the same pairs -/
theorem go_eqDA {a b : Addr} (ha : H a = some (.dK kvs)) (hb : H b = some (.dK kvs)) (all : ∀ p ∈ kvs, valV kvs p.1 = some p.2 ∧ flatB p.2 = true) (k : Q (.bl true) H) : rEqDA (.ref a) (.ref b) H Q := ⟨a, b, kvs, kvs, rfl, rfl, ha, hb, rfl, all, k⟩
theorem go_neDA {a b : Addr} (ha : H a = some (.dK kvs)) (hb : H b = some (.dK kvs)) (all : ∀ p ∈ kvs, valV kvs p.1 = some p.2 ∧ flatB p.2 = true) (k : Q (.bl false) H) : rNeDA (.ref a) (.ref b) H Q := ⟨a, b, kvs, kvs, rfl, rfl, ha, hb, rfl, all, k⟩
/-- a comprehension over a list that changes what stands -/
theorem lcListG {a : Addr} {xs : List V} {vs : List Nat} {te : TE} (Pv : Addr → Nat → List V → Hp → Prop) (hn : xs.length ≤ 100000) (hw : ∀ v, wipe ((wipe σ vs).set j (some v)) vs = wipe σ vs)
    (h0 : ∀ D H', H D = none → Same H H' → H' D = some (.lst []) → Pv D 0 [] H') (hl : ∀ D n acc H', H D = none → Pv D n acc H' → SqL K H' a xs)
    (hs : ∀ D n x acc H' (Q' : VK), xs[n]? = some x → H D = none → acc.length = n → Pv D n acc H' → H' D = some (.lst acc) →
      (∀ y H2, H2 D = some (.lst acc) → (∀ H3, Kp D H2 H3 → H3 D = some (.lst (acc ++ [y])) → Pv D (n + 1) (acc ++ [y]) H3) → Q' y H2) → te ((wipe σ vs).set j (some x)) H' Q')
    (k : ∀ D acc H', H D = none → acc.length = xs.length → Pv D xs.length acc H' → H' D = some (.lst acc) → Q (.ref D) H') : rLc (Itl K a) (gName j) tYes te vs σ H Q := by
  intro D nD
  refine lc_list (K := K) (a := a) (xs := xs) (fun i H' => ∃ acc, acc.length = i ∧ H' D = some (.lst acc) ∧ Pv D i acc H') ⟨[], rfl, upd_same, h0 D _ nD (Same.new nD) upd_same⟩ (fun i H' _ ⟨acc, _, _, p⟩ => hl D i acc H' nD p) ?_ fun H' ⟨acc, e, d, p⟩ => k D acc H' nD e p d
  rintro n x H' hi ⟨acc, e, d, p⟩
  have hlt := (List.getElem?_eq_some_iff.mp hi).1
  refine ⟨hw _, ?_⟩
  refine go_yes ?_
  refine iteT ?_
  refine hs D n x acc H' _ hi nD e p d fun y H2 d2 g => ?_
  refine ⟨acc, d2, ?_, acc ++ [y], ?_, upd_same, g _ Kp.put upd_same⟩
  · rw [e]
    exact Nat.lt_of_lt_of_le (Nat.lt_of_lt_of_le hlt hn) (by decide)
  · rw [List.length_append, e]
    rfl
end
/-! ### repr of any such data -/
def rReprV : List V → Hp → VK → Prop := fun xs H Q => ∃ v d, xs = [v] ∧ Dq H v d ∧ d.showable = true ∧ d.depth ≤ 60 ∧ d.shown.length ≤ sizeLine ∧ Q (.str d.shown) H
theorem call_reprV {X : Cx} (sm : (X.K.lookup sysModules).isSome = true) (hg : X.A.guards = some []) (hu : X.A.units + 64 < cLine) : CallR X (.builtin "repr") rReprV := by
  intro pins s σ H xs us Q I r h
  obtain ⟨v, d, rfl, p, sh, dp, sz, q⟩ := h
  obtain ⟨u, rfl, ru⟩ := vals1 r
  obtain ⟨as, ra, na⟩ := p.reads I (noSys I sm) ru
  cases p with
  | flat f =>
    have nd : isD d = false ∧ d.hasDict = false := by cases f <;> exact ⟨rfl, rfl⟩
    exact call_repr hg hu pins s σ H _ _ Q I r ⟨v, d, rfl, (Dq.flat f).dp nd.1, sh, nd.2, dp, sz, q⟩
  | lst e p =>
    cases (show u = Value.ref _ from ru)
    exact repr_of_reads' ra sh (fun _ z => na z) hg (by omega) (fun _ _ e => e) (fun h' tk t' k => ⟨.str _, H, I.kept k, ⟨_, rfl⟩, q⟩) sz
  | tup e p =>
    cases (show u = Value.ref _ from ru)
    exact repr_of_reads' ra sh (fun _ z => na z) hg (by omega) (fun _ _ e => e) (fun h' tk t' k => ⟨.str _, H, I.kept k, ⟨_, rfl⟩, q⟩) sz
  | dic e p =>
    cases (show u = Value.ref _ from ru)
    exact repr_of_reads' ra sh (fun _ z => na z) hg (by omega) (fun _ _ e => e) (fun h' tk t' k => ⟨.str _, H, I.kept k, ⟨_, rfl⟩, q⟩) sz
structure ReprOk (H : Hp) (v : V) (d : PyData) : Prop where
  dq : Dq H v d
  sh : d.showable = true
  dp : d.depth ≤ 60
  sz : d.shown.length ≤ 100000
theorem ReprOk.same {H H' : Hp} {v : V} {d : PyData} (h : ReprOk H v d) (s : Same H H') : ReprOk H' v d := ⟨h.dq.same s, h.sh, h.dp, h.sz⟩
theorem go_reprV {H : Hp} {Q : VK} {v : V} {d : PyData} (h : ReprOk H v d) (k : Q (.str d.shown) H) : rReprV [v] H Q := ⟨v, d, rfl, h.dq, h.sh, h.dp, Nat.le_trans h.sz (by decide), k⟩
end CT
namespace CT
open PySem PySem.Spec PyProof.Rows L2
open He (ga ma fAd)
open AutoSeq1 (wpAny_loadPart')
open MeetsSeq MeetsSeq2 MeetsSeq3 SeqRoads2

/-! ### == and != of two lists, where the items' comparisons run code of the program -/
def TwoL (l b : Addr) (N : Nat) (s : Shared) : Prop := ∃ (xs ys : Array Value) (n n2 : Nat), s.heap.get? l = some { cls := .type "list", data := .seq xs n } ∧ s.heap.get? b = some { cls := .type "list", data := .seq ys n2 } ∧ xs.size = N ∧ ys.size = N
def cmpCode (ne : Bool) : Int := if ne then 3 else 2
/-- the walk through both: P i before the i-th items -/
theorem walk_cmp {prog : Program} {w : World} {A : Around} {R : Result → Shared → Prop} {l b : Addr} {N : Nat} (ne : Bool) (P : Nat → Shared → Prop)
    (step : ∀ i s, P i s → ∃ (xs ys : Array Value) (n n2 : Nat), s.heap.get? l = some { cls := .type "list", data := .seq xs n } ∧ s.heap.get? b = some { cls := .type "list", data := .seq ys n2 } ∧ xs.size = N ∧ ys.size = N ∧
      ∀ (h1 : i < xs.size) (h2 : i < ys.size) (k : Bool → Shared → Prop), (∀ s', P (i + 1) s' → k true s') → (∀ s', TwoL l b N s' → R (.ok (.ret (.bool ne))) s' → k false s') →
        wpAny (model prog w) A.in1 (eqBool xs[i] ys[i]) k (fun e s' => R (.error e) s') s)
    (done : ∀ s, P N s → R (.ok (.ret (.bool (!ne)))) s) :
    ∀ left i : Nat, N - i = left → i ≤ N → ∀ s, P i s → wpAny (model prog w) A.in1 (Builtin.«list.__eq__.loop» ⟨[.ref l, .ref b, rawInt i, rawInt (cmpCode ne)], []⟩)
      (fun fin s' => match fin with | .done f => R (.ok f) s' | .again c' => c'.quiet = true ∧ codeAny (model prog w) A c' R s') (fun e s' => R (.error e) s') s := by
  intro left
  induction left with
  | zero =>
    intro i e le s p
    obtain ⟨xs, ys, n, n2, hl, hb, sx, sy, _⟩ := step i s p
    obtain rfl : i = N := by omega
    have fin := done s p
    obtain ⟨hp, g, d, tk, os⟩ := s
    cases ne
    all_goals
      wp_walk using wpAny_loadPart' hl, wpAny_loadPart' hb
      rw [show xs[((i : Nat) : Int).toNat]? = none from by simp [sx], show ys[((i : Nat) : Int).toNat]? = none from by simp [sy]]
      wp_walk using wpAny_loadPart' hl, wpAny_loadPart' hb
    · show R (.ok (.ret (.bool (xs.size == ys.size)))) _
      rw [sx, sy]
      simpa using fin
    · show R (.ok (.ret (.bool (xs.size != ys.size)))) _
      rw [sx, sy]
      simpa using fin
  | succ left ih =>
    intro i e le s p
    obtain ⟨xs, ys, n, n2, hl, hb, sx, sy, st⟩ := step i s p
    have h1 : i < xs.size := by omega
    have h2 : i < ys.size := by omega
    have st := st h1 h2
    obtain ⟨hp, g, d, tk, os⟩ := s
    cases ne
    all_goals
      wp_walk using wpAny_loadPart' hl, wpAny_loadPart' hb
      rw [show xs[((i : Nat) : Int).toNat]? = some xs[i] from by simp [h1], show ys[((i : Nat) : Int).toNat]? = some ys[i] from by simp [h2]]
      refine wpAny_bind (st _ (fun s' p' => ?_) fun s' t r => ?_)
      · obtain ⟨hp, g, d, tk, os⟩ := s'
        wp_walk
        rw [show ((i : Int) + 1) = ((i + 1 : Nat) : Int) from by push_cast; rfl]
        exact ⟨plainId_quiet plain_eq_loop _, codeAny_builtin entry_eq_loop (by
          rw [Around.under_plainId plain_eq_loop _]
          exact ih (i + 1) (by omega) (by omega) _ p')⟩
      · obtain ⟨us, ws, m, m2, tl, tb, tx, ty⟩ := t
        obtain ⟨hp, g, d, tk, os⟩ := s'
        wp_walk using wpAny_loadPart' tl, wpAny_loadPart' tb
        rw [show us[((i : Nat) : Int).toNat]? = some (us[i]'(by omega)) from by simp [show i < us.size by omega], show ws[((i : Nat) : Int).toNat]? = some (ws[i]'(by omega)) from by simp [show i < ws.size by omega]]
        wp_walk
        exact r
/-- what list == list asks where the items are instances of C: C's own ==, one pair after the other; p, q: the lists, xs0, ys0: all of them -/
def chEq (K : PySem.W.Frag) (C : Addr) (sp : Sp) (E : XK) (p q : Addr) (xs0 ys0 : List V) : List V → List V → (Bool → Hp → Prop) → Hp → Prop
  | [], [], Q, H => H p = some (.lst xs0) ∧ H q = some (.lst ys0) ∧ Q true H
  | x :: xs, y :: ys, Q, H => H p = some (.lst xs0) ∧ H q = some (.lst ys0) ∧ ∃ a dx fs b t, x = .ref a ∧ y = .ref b ∧ a ≠ b ∧ H a = some (.ins C dx fs) ∧ TyX K H y t ∧ PySem.W.notFirst K C t = true ∧
      sp [x, y] H (fun v H' => ∃ r, v = .bl r ∧ if r = true then chEq K C sp E p q xs0 ys0 xs ys Q H' else (H' p = some (.lst xs0) ∧ H' q = some (.lst ys0) ∧ Q false H')) E
  | [], _ :: _, _, _ => False
  | _ :: _, [], _, _ => False
theorem chEq.two {K : PySem.W.Frag} {C : Addr} {sp : Sp} {E : XK} {p q : Addr} {xs0 ys0 : List V} : ∀ {xs ys : List V} {Q : Bool → Hp → Prop} {H : Hp}, chEq K C sp E p q xs0 ys0 xs ys Q H → H p = some (.lst xs0) ∧ H q = some (.lst ys0)
  | [], [], _, _, h => ⟨h.1, h.2.1⟩
  | _ :: _, _ :: _, _, _, h => ⟨h.1, h.2.1⟩
  | [], _ :: _, _, _, h => h.elim
  | _ :: _, [], _, _, h => h.elim
def rEqL (K : PySem.W.Frag) (C : Addr) (sp : Sp) (E : XK) (ne : Bool) : R2 := fun x y H Q => ∃ p q xs ys, x = .ref p ∧ y = .ref q ∧ xs.length = ys.length ∧ chEq K C sp E p q xs ys xs ys (fun b H' => Q (.bl (if ne then !b else b)) H') H
section
variable {X : Cx} {CX : CXT} {j k : Nat} {C : Addr} {sp : Sp} {E : XK}
theorem two_at {pins : List (Addr × Obj)} {σ : L2.St} {H : Hp} {s : Shared} {p q : Addr} {xs ys : List V} (I : Inv X pins σ H s) (e : xs.length = ys.length) (h : H p = some (.lst xs) ∧ H q = some (.lst ys)) : TwoL p q xs.length s := by
  obtain ⟨_, its, n, rv, at_⟩ := (show ObjOk X.prog X.w H s.heap p (.lst xs) from I.hok p _ h.1)
  obtain ⟨_, its2, n2, rv2, at2⟩ := (show ObjOk X.prog X.w H s.heap q (.lst ys) from I.hok q _ h.2)
  exact ⟨its.toArray, its2.toArray, n, n2, at_, at2, by rw [List.size_toArray, ← rv.length], by rw [List.size_toArray, ← rv2.length, e]⟩
theorem cmp_loop (ne : Bool) (c : Op X.prog X.w X.K X.mg X.base CX k C "__eq__" sp) (hr : Room j X.A) (hk : k + 1 ≤ j) (hx : Passes CX X E) {pins : List (Addr × Obj)} {σ : L2.St} {H : Hp} {s : Shared} {Q : VK} {p q : Addr} {xs ys : List V}
    (len : xs.length = ys.length) (I : Inv X pins σ H s) (ch : chEq X.K C sp E p q xs ys xs ys (fun b H' => Q (.bl (if ne then !b else b)) H') H) :
    wpAny (model X.prog X.w) X.A.in1 (Builtin.«list.__eq__.loop» ⟨[.ref p, .ref q, rawInt 0, rawInt (cmpCode ne)], []⟩)
      (fun fin s' => match fin with | .done f => wants (fun r s' => r ≠ .notImplemented ∧ EP X pins σ Q r s') X.xe (.ok f) s' | .again c' => c'.quiet = true ∧ codeAny (model X.prog X.w) X.A c' (wants (fun r s' => r ≠ .notImplemented ∧ EP X pins σ Q r s') X.xe) s')
      (fun e s' => wants (fun r s' => r ≠ .notImplemented ∧ EP X pins σ Q r s') X.xe (.error e) s') s := by
  obtain ⟨f, fd, ps, Fn, h1, h2, b⟩ := c
  have hr1 := (hr.mono hk).in1
  have one : ∀ {s : Shared} {H : Hp} {zs ws : List V} {x y : V} {t u : Value} {Qb : Bool → Hp → Prop} {k : Bool → Shared → Prop}, Inv X pins σ H s → RelV x t → RelV y u → chEq X.K C sp E p q xs ys (x :: zs) (y :: ws) Qb H →
      (∀ s' H', Inv X pins σ H' s' → chEq X.K C sp E p q xs ys zs ws Qb H' → k true s') → (∀ s' H', Inv X pins σ H' s' → (H' p = some (.lst xs) ∧ H' q = some (.lst ys)) → Qb false H' → k false s') →
      wpAny (model X.prog X.w) X.A.in1 (eqBool t u) k X.xe s := by
    intro s H zs ws x y t u Qb k I rx ry ch yes no
    obtain ⟨_, _, a, dx, fs, b', tt, rfl, rfl, ab, ha, ty, nf, q⟩ := ch
    cases (show t = Value.ref a from rx)
    cases (show u = Value.ref b' from ry)
    obtain ⟨mA, J, _⟩ := ins_get I.hok ha
    obtain ⟨od, J, _⟩ := J.look
    obtain ⟨P, Z, hp, _⟩ := kit_of I ry ty
    obtain ⟨m, hF⟩ := I.fr
    have ne : (Value.ref a == Value.ref b') = false := by
      rw [beq_eq_false_iff_ne]
      intro z
      exact ab (by cases z; rfl)
    have comp : wpAny (model X.prog X.w) X.A.in1 (richCompare .Eq (.ref a) (.ref b')) (fun r s' => ∃ b, r = .bool b ∧ k b s') X.xe s := by
      refine PySem.W.cmp_K (op := .Eq) (tb := tt) hr1.units0 hF I.ok.mod.kin J (Z.ty _ _ I.kIn hp) nf h1 h2 ?_
      refine wpAny_mono (run_at (us := [.ref a, .ref b']) (vs := [.ref a, .ref b']) Fn b hr1 I.env0.in1 hx I (.cons rfl (.cons rfl .nil)) q) (fun w s' z => ?_) fun _ _ x => x
      obtain ⟨z', H', I', rz, bb, rfl, qz⟩ := z
      cases (show w = Value.bool bb from rz)
      cases bb
      · exact ⟨false, rfl, no s' H' I' ⟨(by simpa using qz.1), (by simpa using qz.2.1)⟩ (by simpa using qz.2.2)⟩
      · exact ⟨true, rfl, yes s' H' I' (by simpa using qz)⟩
    unfold eqBool
    refine wpAny_holding ?_
    simp only [ne, Bool.false_eq_true, if_false]
    exact wpAny_bind (wpAny_mono comp (fun r s' z => by
        obtain ⟨b, rfl, q⟩ := z
        exact wpAny_truthy_bool q) fun _ _ q => q)
  let P : Nat → Shared → Prop := fun i s => ∃ H, Inv X pins σ H s ∧ chEq X.K C sp E p q xs ys (xs.drop i) (ys.drop i) (fun b H' => Q (.bl (if ne then !b else b)) H') H
  have walk := walk_cmp (prog := X.prog) (w := X.w) (A := X.A) (R := wants (fun r s' => r ≠ .notImplemented ∧ EP X pins σ Q r s') X.xe) (l := p) (b := q) (N := xs.length) ne P (fun i s h => by
      obtain ⟨H, I, ch⟩ := h
      obtain ⟨_, its, n, rv, at_⟩ := (show ObjOk X.prog X.w H s.heap p (.lst xs) from I.hok p _ ch.two.1)
      obtain ⟨_, its2, n2, rv2, at2⟩ := (show ObjOk X.prog X.w H s.heap q (.lst ys) from I.hok q _ ch.two.2)
      refine ⟨its.toArray, its2.toArray, n, n2, at_, at2, by rw [List.size_toArray, ← rv.length], by rw [List.size_toArray, ← rv2.length, len], fun lt lt2 k yes no => ?_⟩
      have l1 : i < xs.length := by rw [rv.length]; simpa using lt
      have l2 : i < ys.length := by rw [rv2.length]; simpa using lt2
      rw [List.drop_eq_getElem_cons l1, List.drop_eq_getElem_cons l2] at ch
      obtain ⟨t, et, ri⟩ := rv.get (List.getElem?_eq_getElem l1)
      obtain ⟨t2, et2, ri2⟩ := rv2.get (List.getElem?_eq_getElem l2)
      have ei : its.toArray[i] = t := by
        have z : its.toArray[i]? = some t := by simpa using et
        exact (Array.getElem?_eq_some_iff.mp z).2
      have ei2 : its2.toArray[i] = t2 := by
        have z : its2.toArray[i]? = some t2 := by simpa using et2
        exact (Array.getElem?_eq_some_iff.mp z).2
      refine one I (ei.symm ▸ ri) (ei2.symm ▸ ri2) ch (fun s' H' I' c => yes s' ⟨H', I', c⟩) fun s' H' I' two qz => no s' (two_at I' len two) ?_
      exact ⟨by simp, .bl ne, H', I', rfl, by cases ne <;> exact qz⟩)
    (fun s h => by
      obtain ⟨H, I, ch⟩ := h
      rw [List.drop_length, len, List.drop_length] at ch
      exact ⟨by simp, .bl (!ne), H, I, rfl, by cases ne <;> exact ch.2.2⟩)
  exact walk xs.length 0 (by omega) (Nat.zero_le _) s ⟨H, I, ch⟩
theorem op_eqLst (c : Op X.prog X.w X.K X.mg X.base CX k C "__eq__" sp) (hr : Room j X.A) (hk : k + 1 ≤ j) (hx : Passes CX X E) : OpR X (compareOp .Eq) (rEqL X.K C sp E false) := by
  intro pins s σ H x y v u Q I rx ry h
  obtain ⟨p, q, xs, ys, rfl, rfl, len, ch⟩ := h
  cases (show v = Value.ref p from rx)
  cases (show u = Value.ref q from ry)
  obtain ⟨us, ws, n, n2, a1, a2, sx, sy⟩ := two_at I len ch.two
  have loop := cmp_loop false c hr hk hx len I ch
  show wpAny _ X.A (richCompare .Eq (.ref p) (.ref q)) _ _ s
  refine wpAny_richCompare_same_room (T := "list") (op := .Eq) ⟨_, a1, rfl⟩ ⟨_, a2, rfl⟩ F.slot_list_eq (call_meetsIn (B := Builtin.«list.__eq__») F.slot_list_eq ⟨_, a1, rfl⟩ F.entry_list_eq (F.args_list_eq_2 _ _)
    (S := fun A R s => wpAny (model X.prog X.w) A.in1 (Builtin.«list.__eq__» ⟨[.ref p, .ref q], []⟩)
      (fun fin s' => match fin with | .done f => R (.ok f) s' | .again c' => c'.quiet = true ∧ codeAny (model X.prog X.w) A c' R s') (fun e s' => R (.error e) s') s) (fun _ _ _ h => h) ?_) hr.units0
  have f3 := AutoSeq1.sub_list_list
  have hne : ¬ (us.size != ws.size) = true := by simp [sx, sy]
  obtain ⟨hp, g, d, tk, os⟩ := s
  wp_walk using wpAny_loadPart' a1, wpAny_loadPart' a2
  exact ⟨plainId_quiet plain_eq_loop _, codeAny_builtin entry_eq_loop (by
    rw [Around.under_plainId plain_eq_loop _]
    exact loop)⟩
theorem op_neLst (c : Op X.prog X.w X.K X.mg X.base CX k C "__eq__" sp) (hr : Room j X.A) (hk : k + 1 ≤ j) (hx : Passes CX X E) : OpR X (compareOp .NotEq) (rEqL X.K C sp E true) := by
  intro pins s σ H x y v u Q I rx ry h
  obtain ⟨p, q, xs, ys, rfl, rfl, len, ch⟩ := h
  cases (show v = Value.ref p from rx)
  cases (show u = Value.ref q from ry)
  obtain ⟨us, ws, n, n2, a1, a2, sx, sy⟩ := two_at I len ch.two
  have loop := cmp_loop true c hr hk hx len I ch
  show wpAny _ X.A (richCompare .NotEq (.ref p) (.ref q)) _ _ s
  refine wpAny_richCompare_same_room (T := "list") (op := .NotEq) ⟨_, a1, rfl⟩ ⟨_, a2, rfl⟩ F.slot_list_ne (call_meetsIn (B := Builtin.«list.__ne__») F.slot_list_ne ⟨_, a1, rfl⟩ F.entry_list_ne (F.args_list_ne_2 _ _)
    (S := fun A R s => wpAny (model X.prog X.w) A.in1 (Builtin.«list.__ne__» ⟨[.ref p, .ref q], []⟩)
      (fun fin s' => match fin with | .done f => R (.ok f) s' | .again c' => c'.quiet = true ∧ codeAny (model X.prog X.w) A c' R s') (fun e s' => R (.error e) s') s) (fun _ _ _ h => h) ?_) hr.units0
  have f3 := AutoSeq1.sub_list_list
  have hne : ¬ (us.size != ws.size) = true := by simp [sx, sy]
  obtain ⟨hp, g, d, tk, os⟩ := s
  wp_walk using wpAny_loadPart' a1, wpAny_loadPart' a2
  exact ⟨plainId_quiet plain_eq_loop _, codeAny_builtin entry_eq_loop (by
    rw [Around.under_plainId plain_eq_loop _]
    exact loop)⟩
end
/-! ### one clause behind a body that asks a def which may raise -/
def tTry (K : PySem.W.Frag) (c : Value) (i n : Nat) (ts : Addr → Value → Option Addr → TS) (tb : XK → TS) : TS := fun D σ H =>
  ∃ Ech : XK, (∀ cls d σ' H', Ech cls d H' → σ'.length = n → wKeep K c i ts (fun _ _ _ _ => False) D cls d σ' H') ∧ tb Ech D σ H
theorem ps_tryE {X : Cx} {x nm : Str} {c : Value} {i n : Nat} {body suite : List Stmt} {b0 : Stmt} {np pos pos' : Pos} {tb : XK → TS} {ts : Addr → Value → Option Addr → TS}
    (hs : X.stack = X.env :: X.outer) (hf : X.env.frame = some X.env.locals) (hex : X.ex = []) (hN : X.N.Nodup) (hi : X.N[i]? = some nm) (hln : X.env.kindOf nm = some .local) (hc : Names X x c) (hn : X.N.length = n)
    (hb : ∀ (Ech : XK) (pn : List (Addr × Obj)) (xe : Value → Shared → Prop), Takes (X.tr pn xe) (fun cls d _ H => Ech cls d H) → PSs (X.tr pn xe) body (tb Ech))
    (hsu : ∀ (a : Addr) (oe : Obj) (cls : Value) (d : Option Addr) (pn : List (Addr × Obj)), Zc cls d oe → (∃ vs, oe.data = .fields vs) → PSs (X.suite a ((a, oe) :: pn)) (b0 :: suite) (ts a cls d)) :
    PS X (.Try body [.ExceptHandler (some (.Name x np)) (some nm) (b0 :: suite) pos'] [] [] pos) (tTry X.K c i n ts tb) :=
  ps_try_keep (Wout := fun _ _ _ _ => False) (tb := fun W D σ H => ∃ Ech : XK, (∀ cls d σ' H', Ech cls d H' → σ'.length = n → W cls d σ' H') ∧ tb Ech D σ H) hs hf hex hN hi hln hc LamX.takes0
    (fun W pn xe tk _ => ⟨fun pins s' σ H' D I h' => by
      obtain ⟨Ech, hW, h3⟩ := h'
      exact (hb Ech pn xe ((takes_len tk).imp fun cls d σ H e l => hW cls d σ H e (l.trans hn))).run pins s' σ H' D I h3⟩) hsu
/-! ### three names at once -/
def par3 (i j l : Nat) (σ : St) (vs : List V) (k : St → Prop) : Prop := ∃ u v w, vs = [u, v, w] ∧ k (((σ.set i (some u)).set j (some v)).set l (some w))
theorem go_par3 {i j l : Nat} {ta : TA} {D : Ends} {σ : St} {H : Hp} (k : ta σ H fun vs H1 => par3 i j l σ vs fun σ' => D.nx σ' H1) : tPar3 i j l ta D σ H := k
theorem go_par3x {i j l : Nat} {σ σ' : St} {u v w : V} {k : St → Prop} (e : ((σ.set i (some u)).set j (some v)).set l (some w) = σ') (h : k σ') : par3 i j l σ [u, v, w] k := ⟨u, v, w, rfl, by rw [e]; exact h⟩
end CT
namespace CT
open PySem PySem.Spec PyProof.Rows L2
open He (ga ma fAd)

/-! ### walks and parts of what is a list or a tuple -/
def iOr (a b : TI) : TI := fun σ H R => a σ H R ∨ b σ H R
theorem pi_or {X : Cx} {t e : Expr} {a b : TI} (ha : PI X t e a) (hb : PI X t e b) : PI X t e (iOr a b) := ⟨fun pins s σ H R I h => h.elim (ha.run pins s σ H R I) (hb.run pins s σ H R I)⟩
def rSlQ (K : PySem.W.Frag) : V → Option Int → Option Int → Hp → VK → Prop := fun x lo hi H Q => rSlL K x lo hi H Q ∨ rSlA K x lo hi H Q
theorem sl_seqA {X : Cx} : SlR X (rSlQ X.K) := SlR.or sl_list sl_tupA
section
variable {K : PySem.W.Frag} {σ : L2.St} {H : Hp} {Q : VK} {a : Addr} {xs : List V}
theorem go_orL {ta tb : TI} {R : It → Hp → Prop} (k : ta σ H R) : iOr ta tb σ H R := .inl k
theorem go_orR {ta tb : TI} {R : It → Hp → Prop} (k : tb σ H R) : iOr ta tb σ H R := .inr k
theorem go_slSL {lo : Nat} (h : H a = some (.lst xs)) (k : ∀ p H', H p = none → Same H H' → H' p = some (.lst (xs.drop lo)) → Q (.ref p) H') : rSlQ K (.ref a) (some (lo : Int)) none H Q :=
  .inl ⟨a, xs, rfl, .of h, fun p np => by
    rw [cut_from]
    exact k p _ np (Same.new np) upd_same⟩
theorem go_slST {lo : Nat} (h : H a = some (.tup xs)) (k : ∀ p H', Same H H' → H' p = some (.tup (xs.drop lo)) → Q (.ref p) H') : rSlQ K (.ref a) (some (lo : Int)) none H Q :=
  .inr ⟨a, xs, rfl, .of h, fun ⟨w, _⟩ => by
    rw [HT.sIx_nat] at w
    have e : xs.drop lo = xs := by
      by_cases z : lo = 0
      · rw [z, List.drop_zero]
      · have : xs.length = 0 := by omega
        rw [List.length_eq_zero_iff.mp this, List.drop_nil]
    exact k a H (Same.refl H) (by rw [e]; exact h), fun _ p np => by
    rw [cut_from]
    exact k p _ (Same.new np) upd_same⟩
end
/-- a list so many times, not written out -/
def rRepN : R2 := rRep
theorem op_repN {X : Cx} : OpR X (binaryOp .Mult) rRepN := op_rep
theorem go_repN {H : Hp} {Q : VK} {l : Addr} {n : Int} {v : V} (h : H l = some (.lst [v])) (n0 : 0 ≤ n) (n1 : n ≤ 1000) (k : ∀ p H', H p = none → Same H H' → H' p = some (.lst (List.replicate n.toNat v)) → Q (.ref p) H') : rRepN (.ref l) (.int n) H Q := by
  refine ⟨l, n, [v], rfl, rfl, h, by omega, by omega, Nat.le_trans (Nat.mul_le_mul (Nat.le_refl 1) (show n.toNat ≤ 1000 by omega)) (by decide), fun p np => ?_⟩
  have e : (List.replicate n.toNat [v]).flatten = List.replicate n.toNat v := by
    generalize n.toNat = m
    induction m with
    | zero => rfl
    | succ m ih => rw [List.replicate_succ, List.flatten_cons, ih]; rfl
  rw [e]
  exact k p _ np (Same.new np) upd_same
end CT
namespace CT
open PySem PySem.Spec PyProof.Rows L2
open He (ga ma fAd)

/-! ### numbers of many figures, to texts and back -/
theorem noDigits {X : Cx} {pins : List (Addr × Obj)} {σ : L2.St} {H : Hp} {s : Shared} (I : Inv X pins σ H s) (nd : PySem.W.nsIn X.K cStatics "sys.int_max_str_digits" = some none) : s.heap.NoDigits := by
  obtain ⟨mc, ⟨o, es, ep, ho, hd, sk, hm⟩, _⟩ := I.nolimit
  refine ⟨mc, ⟨o, es, ep, ho, hd, sk, hm⟩, ?_⟩
  rw [← hm]
  unfold PySem.W.nsIn at nd
  split at nd
  · rename_i c d es' n sl lk
    have e := I.kIn _ _ lk
    rw [ho] at e
    cases e
    cases hd
    split at nd
    · cases nd
    · rename_i f
      unfold nsFind findBy
      rw [Array.find?_toList] at f
      rw [f]
      rfl
  · cases nd
def rStrW : List V → Hp → VK → Prop := fun xs H Q => ∃ i : Int, xs = [.int i] ∧ i.natAbs < 10 ^ 4300 ∧ Q (.str (toString i)) H
theorem call_strW {X : Cx} (nd : PySem.W.nsIn X.K cStatics "sys.int_max_str_digits" = some none) (hc : X.calm = true) : CallR X (.type "str") rStrW := by
  intro pins s σ H xs us Q I r h
  obtain ⟨i, rfl, hz, q⟩ := h
  obtain ⟨u, rfl, t, rfl⟩ := vals1 r
  exact str_of_int_or (I.ok.hd hc) (noDigits I nd) (fun _ => ⟨.str _, H, I.tok _, ⟨_, rfl⟩, q⟩) fun g => absurd hz (Nat.not_lt.mpr g)
section
variable {M : Model} {A : Around} {E : Value → Shared → Prop} {s : Shared} {Q : Value → Shared → Prop}
theorem limit_is {R : Nat → Shared → Prop} (hn : s.heap.NoDigits) (q : R 4300 s) : wpAny M A Builtin.intMaxStrDigits R E s := by
  obtain ⟨mc, a, b⟩ := hn
  unfold Builtin.intMaxStrDigits
  refine wpAny_bind (wpAny_nsGet a ?_)
  rw [b]
  exact wpAny_pure q
/-- what a long text of a number asks -/
structure Long (x : Str) (n : Int) : Prop where
  many : ¬ (numSeenOf x).length ≤ 640
  val : (int_private% "readNumeral") 4300 10 (numSeenOf x) = (int_private% "Numeral.value") n
  all : ((numSeenOf x).length == (numTextOf x).length) = true
theorem Long.of {x : Str} {n : Int} (g : ¬ (numSeenOf x).length ≤ 640) (z : x.length ≤ sizeLine) (hn : PySem.intText? x = some n) : Long x n := by
  rcases read4300 x z with ⟨m, a, b, c⟩ | ⟨a, _⟩
  · rw [hn] at a
    cases a
    exact ⟨g, c, b⟩
  · rw [hn] at a
    cases a
theorem from_long {x : Str} {u : Tok} {n : Int} (L : Long x n) (hn : s.heap.NoDigits) (q : Q (.int n s.toks) { s with toks := s.toks + 1 }) :
    wpAny M A ((int_private% "intFromText") (.str x u) (numTextOf x) 10) Q E s := by
  have e1 := L.many
  have e2 := L.val
  have e3 := L.all
  obtain ⟨hp, g, d, tk, os⟩ := s
  iterate 3 wp_step
  refine limit_is hn ?_
  unfold numSeenOf at e2 e3
  dsimp only
  rw [e2]
  dsimp only
  rw [if_pos e3]
  repeat (any_goals (first | assumption | wp_step))
theorem new_long {x : Str} {u : Tok} {n : Int} (L : Long x n) : Meets (Builtin.«int.__new__» ⟨[.type "int", .str x u], []⟩) (fun _ R s => s.heap.NoDigits ∧ R (.ok (.ret (.int n s.toks))) { s with toks := s.toks + 1 }) :=
  .of_wp fun prog w A R s h => by
    obtain ⟨hp, g, d, tk, os⟩ := s
    obtain ⟨hn, h⟩ := h
    have a1 := F.conv_sub_int
    have a2 := F.madeHere_int
    have a3 := PySem.W.KIN.str_int
    have a4 := PySem.W.KIN.str_idx
    have a5 := PySem.W.KIN.str_trunc
    have a6 : typeOf (.str x u) = pure (.type "str") := rfl
    repeat (any_goals (first
      | assumption
      | ((with_reducible show wpAny _ _ ((int_private% "intFromText") _ _ _) _ _ _); refine from_long L hn ?_)
      | wp_step))
    all_goals first | exact ⟨_, rfl, h⟩ | skip
end
def rIntW : List V → Hp → VK → Prop := fun xs H Q => ∃ (a : Str) (n : Int), xs = [.str a] ∧ PySem.intText? a = some n ∧ (a.length ≤ 640 ∨ (¬ (numSeenOf a).length ≤ 640 ∧ a.length ≤ 4300)) ∧ Q (.int n) H
theorem call_intW {X : Cx} (nd : PySem.W.nsIn X.K cStatics "sys.int_max_str_digits" = some none) : CallR X (.type "int") rIntW := by
  intro pins s σ H xs us Q I r h
  obtain ⟨a, n, rfl, hn, hl | ⟨z, hl⟩, q⟩ := h
  · exact call_int_str pins s σ H _ us Q I r ⟨a, n, rfl, hn, hl, q⟩
  · obtain ⟨u, rfl, t, rfl⟩ := vals1 r
    exact call_int_1 (new_long (Long.of z (Nat.le_trans hl (by decide)) hn)) ⟨noDigits I nd, typeIs_int _ _ _, .int n, H, I.tok _, ⟨_, rfl⟩, q⟩
theorem seen_digits {a : Str} (h : NumText.AllDigits (TL.tl a)) : (numSeenOf a).length = a.length := by
  have lt : a.cps.all (· < 128) = true := by
    rw [← Array.all_toList, List.all_eq_true]
    intro c hc
    have := h c hc
    exact decide_eq_true (by omega)
  have e : numTextOf a = a.cps.toList := if_pos lt
  unfold numSeenOf
  rw [e]
  have all : ∀ l : List Nat, (∀ c ∈ l, 48 ≤ c ∧ c ≤ 57) → l.takeWhile (· != 0) = l := fun l => by
    induction l with
    | nil => exact fun _ => rfl
    | cons c r ih =>
      intro q
      have := q c List.mem_cons_self
      rw [List.takeWhile_cons_of_pos (by simp; omega), ih fun d hd => q d (List.mem_cons_of_mem _ hd)]
  rw [all _ h]
  exact Array.length_toList
theorem go_strW {H : Hp} {Q : VK} {i : Int} (h : i.natAbs < 10 ^ 4300) (k : Q (.str (toString i)) H) : rStrW [.int i] H Q := ⟨i, rfl, h, k⟩
theorem go_intW {H : Hp} {Q : VK} {a : Str} (h : NumText.AllDigits (TL.tl a)) (ne : TL.tl a ≠ []) (l : a.length ≤ 4300) (k : Q (.int ((NumText.digitsVal (TL.tl a) : Nat) : Int)) H) : rIntW [.str a] H Q := by
  refine ⟨a, _, rfl, intText_digits h ne l, ?_, k⟩
  by_cases z : a.length ≤ 640
  · exact .inl z
  · exact .inr ⟨by rw [seen_digits h]; exact z, l⟩
/-! ### methods of texts -/
section
variable {X : Cx} {o e : Expr} {to te : TE} {apos pos : Pos}
def rPart : V → List V → Hp → VK → Prop := fun x xs H Q => ∃ a b, x = .str a ∧ xs = [.str b] ∧ (b.length == 0) = false ∧ a.length ≤ sizeLine ∧
  ∀ p, H p = none → Q (.ref p) (upd H p (.tup [.str (Txt.partition a b).1, .str (Txt.partition a b).2.1, .str (Txt.partition a b).2.2]))
def rStarts : V → List V → Hp → VK → Prop := fun x xs H Q => ∃ a b, x = .str a ∧ xs = [.str b] ∧ Q (.bl (Txt.startswith a b)) H
def rNoPre : V → List V → Hp → VK → Prop := fun x xs H Q => ∃ a b, x = .str a ∧ xs = [.str b] ∧ a.length ≤ sizeLine ∧ Q (.str (Txt.removeprefix a b)) H
theorem pe_partS (ho : PE X o to) (he : PE X e te) (hs : starEach [e] X.env = [(false, eval e X.env)] := by rfl) (hbase : attributeBase o "partition" X.env (eval o X.env) = eval o X.env := by rfl) (hline : (apos.endLine == pos.line) = true := by rfl) :
    PE X (.Call (.Attribute o "partition" apos) [e] [] pos) (L2.tM1 rPart to te) := pe_partition ho he hs hbase hline
theorem pe_startsS (ho : PE X o to) (he : PE X e te) (hs : starEach [e] X.env = [(false, eval e X.env)] := by rfl) (hbase : attributeBase o "startswith" X.env (eval o X.env) = eval o X.env := by rfl) (hline : (apos.endLine == pos.line) = true := by rfl) :
    PE X (.Call (.Attribute o "startswith" apos) [e] [] pos) (L2.tM1 rStarts to te) := pe_m1 F.slot_str_startswith F.type_str_startswith mt_startswith ho he hs hbase hline
theorem pe_nopreS (ho : PE X o to) (he : PE X e te) (hs : starEach [e] X.env = [(false, eval e X.env)] := by rfl) (hbase : attributeBase o "removeprefix" X.env (eval o X.env) = eval o X.env := by rfl) (hline : (apos.endLine == pos.line) = true := by rfl) :
    PE X (.Call (.Attribute o "removeprefix" apos) [e] [] pos) (L2.tM1 rNoPre to te) := pe_m1 F.slot_str_removeprefix F.type_str_removeprefix mt_removeprefix ho he hs hbase hline
end
theorem go_partS {H : Hp} {Q : VK} {a b : Str} (hb : (b.length == 0) = false) (hl : a.length ≤ 9000000) (k : ∀ p H', H p = none → Same H H' → H' p = some (.tup [.str (Txt.partition a b).1, .str (Txt.partition a b).2.1, .str (Txt.partition a b).2.2]) → Q (.ref p) H') :
    rM1' rPart (.str a) (.str b) H Q := ⟨a, b, rfl, rfl, hb, Nat.le_trans hl (by decide), fun p np => k p _ np (Same.new np) upd_same⟩
theorem go_startsS {H : Hp} {Q : VK} {a b : Str} (k : Q (.bl (Txt.startswith a b)) H) : rM1' rStarts (.str a) (.str b) H Q := ⟨a, b, rfl, rfl, k⟩
theorem go_nopreS {H : Hp} {Q : VK} {a b : Str} (hl : a.length ≤ 9000000) (k : Q (.str (Txt.removeprefix a b)) H) : rM1' rNoPre (.str a) (.str b) H Q := ⟨a, b, rfl, rfl, Nat.le_trans hl (by decide), k⟩
/-- a text turned round: no longer, no other signs -/
def rRevS : V → Hp → VK → Prop := fun x H Q => ∃ z : Str, x = .str z ∧ z.length ≤ sizeLine ∧ ∀ y : Str, y.length ≤ z.length → (∀ c ∈ TL.tl y, c ∈ TL.tl z) → Q (.str y) H
def tRevS (te : TE) : TE := fun σ H Q => te σ H fun x H1 => rRevS x H1 Q
theorem turned_signs (z : Str) (t : Tok) : ((slicePicked z none none (some (-1, t))).filterMap (z.cps[·]?)).length ≤ z.length ∧ ∀ c ∈ (slicePicked z none none (some (-1, t))).filterMap (z.cps[·]?), c ∈ TL.tl z := by
  have e : slicePicked z none none (some (-1, t)) = (List.range z.length).map fun k => z.length - 1 - k := picked_rev z.length
  rw [e]
  refine ⟨Nat.le_trans (List.length_filterMap_le _ _) (by simp), fun c hc => ?_⟩
  obtain ⟨i, _, hi⟩ := List.mem_filterMap.mp hc
  exact Array.mem_toList_iff.mpr (Array.mem_of_getElem? hi)
theorem pe_revS {X : Cx} {e : Expr} {te : TE} {k : Nat} {p1 p2 p3 pos : Pos} (he : PE X e te) : PE X (.Subscript e (.Slice none none (some (.UnaryOp .USub (.Constant (.int 1) k p1) p2)) p3) pos) (tRevS te) := by
  refine ⟨fun pins s σ H Q I h => Subscript_ (thn (he.run pins s σ H _ I h) ?_)⟩
  rintro v s1 ⟨x, H1, I1, r1, z, rfl, hz, q⟩
  obtain ⟨t, rfl⟩ := r1
  have one : PO X (some (.UnaryOp .USub (.Constant (.int 1) k p1) p2)) (tPart (tUn (rU fun i => .int (-i)) (tC (.int 1)))) := po_some (pe_un L2.un_neg pe_int)
  refine wpAny_Slice (thn (po_none.run pins s1 σ H1 (fun o G => o = none ∧ G = H1) I1 ⟨rfl, rfl⟩) ?_)
  rintro vl s2 ⟨l, H2, I2, pl, rfl, rfl⟩
  refine thn (po_none.run pins s2 σ _ (fun o G => o = none ∧ G = H2) I2 ⟨rfl, rfl⟩) ?_
  rintro vu s3 ⟨u, H3, I3, pu, rfl, rfl⟩
  refine thn (one.run pins s3 σ _ (fun o G => o = some (-1) ∧ G = H3) I3 ⟨1, rfl, -1, rfl, rfl, rfl⟩) ?_
  rintro vs s4 ⟨o, H4, I4, ps, rfl, rfl⟩
  have still := I4.kept (h' := s4.heap.push { cls := .type "slice", data := .fields #[vl, vu, vs] }) (t' := s4.toks) fun _ _ found => Heap.get?_push_of_some _ found
  obtain ⟨l', el, e1⟩ := IsPart.raw pl
  obtain ⟨u', eu, e2⟩ := IsPart.raw pu
  obtain ⟨w', ew, e3⟩ := IsPart.raw ps
  subst el eu ew
  obtain rfl : l' = none := by
    cases l' with
    | none => rfl
    | some _ => cases e1
  obtain rfl : u' = none := by
    cases u' with
    | none => rfl
    | some _ => cases e2
  obtain ⟨tk, rfl⟩ : ∃ tk, w' = some (-1, tk) := by
    cases w' with
    | none => cases e3
    | some j =>
      obtain ⟨j, tk⟩ := j
      cases e3
      exact ⟨tk, rfl⟩
  show wpAny (model X.prog X.w) X.A (subscriptTail e _ (.str z t) (.ref s4.heap.objs.size)) _ X.xe _
  refine tail_any (ops := [.str z t, .ref s4.heap.objs.size]) (typeIs_str _ _ _) F.slot_str_getitem.lookup ?_ (by with_unfolding_all rfl)
  have here : Heap.IsSlice (s4.heap.push { cls := .type "slice", data := .fields #[partValue none, partValue none, partValue (some (-1, tk))] }) s4.heap.objs.size none none (some (-1, tk)) := ⟨_, Heap.get?_push_size _ rfl, rfl, rfl⟩
  refine wpAny_getItem_str_slice (l := none) (u := none) (st := some (-1, tk)) here rfl ?_
  obtain ⟨few, sub⟩ := turned_signs z tk
  refine ⟨?_, .str _, H4, still.tok _, ⟨_, rfl⟩, q _ ?_ ?_⟩
  · exact Nat.le_trans (by show ((slicePicked z none none (some (-1, tk))).filterMap (z.cps[·]?)).toArray.size ≤ z.length; rw [List.size_toArray]; exact few) hz
  · show ((slicePicked z none none (some (-1, tk))).filterMap (z.cps[·]?)).toArray.size ≤ z.length
    rw [List.size_toArray]
    exact few
  · exact sub
theorem go_revS {σ : L2.St} {H : Hp} {Q : VK} {te : TE} (k : te σ H fun x H1 => rRevS x H1 Q) : tRevS te σ H Q := k
theorem go_revSx {H : Hp} {Q : VK} {z : Str} (l : z.length ≤ 9000000) (k : ∀ y : Str, y.length ≤ z.length → (∀ c ∈ TL.tl y, c ∈ TL.tl z) → Q (.str y) H) : rRevS (.str z) H Q := ⟨z, rfl, Nat.le_trans l (by decide), k⟩
end CT
open L2 CT
local macro_rules | `(tactic| walk_at "num") => `(tactic| (first
  | assumption
  | omega
  | exact Or.inl ⟨by omega, by omega⟩
  | exact Or.inr ⟨by omega, by omega⟩
  | exact ⟨by omega, by omega⟩
  | exact ⟨by omega, by omega, by omega⟩
  | (show (0 : Int) < _; omega)
  | exact divW (by omega) (by omega)
  | exact divV (by omega) (by omega) (by omega)
  | exact mulI (by omega) (by omega) (by omega) (by omega)
  | (show _ ∨ _; first | exact Or.inl ⟨by omega, by omega⟩ | exact Or.inr ⟨by omega, by omega⟩)
  | (show _ ∧ _; exact ⟨by omega, by omega⟩)
  | (show _ ∧ _; exact ⟨by omega, by omega, by omega⟩)))
local macro_rules | `(tactic| walk_at "bt") => `(tactic| (first
  | assumption
  | ((apply Bt.neg); (focus (walk_at "bt")))
  | ((apply Bt.mul); (focus (walk_at "bt")); (focus (walk_at "bt")))
  | ((apply Bt.add); (focus (walk_at "bt")); (focus (walk_at "bt")))
  | ((apply Bt.sub); (focus (walk_at "bt")); (focus (walk_at "bt")))
  | ((apply Bt.abs); (focus (walk_at "bt")))
  | ((apply Bt.div); (focus (walk_at "bt")); (focus (first | assumption | omega)))
  | exact Bt.of 200 (by omega) (by omega)))
local macro_rules | `(tactic| walk_at "numb") => `(tactic| (first
  | assumption
  | exact Bt.mulW (by walk_at "bt") (by walk_at "bt") (by decide)
  | exact Bt.divW (by first | assumption | omega) (by walk_at "bt") (by decide)))
local macro_rules | `(tactic| walk_at "hp") => `(tactic| (first
  | assumption
  | exact upd_same
  | ((apply same_at); (focus assumption); (focus (walk_at "hp")))
  | ((apply kp_at); (focus assumption); (focus (first | assumption | (walk_at "ne"))); (focus (walk_at "hp")))
  | ((apply xt_at); (focus assumption); (focus (walk_at "hp")); (focus (intro _ z; cases z)))
  | ((apply kx_at); (focus assumption); (focus (first | assumption | (walk_at "ne"))); (focus (walk_at "hp")); (focus (intro _ z; cases z)))
  | ((apply upd_keep); (focus assumption); (focus (walk_at "hp")))
  | ((apply upd_at); (focus assumption); (focus (walk_at "hp")))))
local macro_rules | `(tactic| walk_at "sq") => `(tactic| (first
  | assumption
  | ((apply SqL.of); (focus (walk_at "hp")))
  | ((apply SqT.of); (focus (walk_at "hp")))))
local macro_rules | `(tactic| walk_at "lk") => `(tactic| (first
  | exact lk_here
  | exact lk_nil
  | ((apply lk_skip); (focus (decide +kernel)); (focus (walk_at "lk")))
  | ((apply lk_no); (focus (decide +kernel)); (focus (walk_at "lk")))))
local macro_rules | `(tactic| walk_at "put") => `(tactic| (first
  | exact put_nil
  | exact put_here
  | ((apply put_skip); (focus (decide +kernel)); (focus (walk_at "put")))))
local macro_rules | `(tactic| walk_at "go") => `(tactic| repeat (first
  | with_reducible refine go_seq ?_
  | with_reducible refine go_asg ?_
  | ((with_reducible apply go_name); (focus (first | (dsimp only [List.set, Int.reduceToNat]; done) | (dsimp only [List.set, Int.reduceToNat]; exact rfl))))
  | with_reducible refine go_op ?_
  | ((with_reducible apply go_var); (focus (exact rfl)))
  | with_reducible refine go_c ?_
  | with_reducible refine go_cons ?_
  | with_reducible refine go_nil ?_
  | with_reducible refine go_call ?_
  | with_reducible refine go_cbLst ?_
  | with_reducible refine go_cbLen ?_
  | with_reducible refine go_cbInt ?_
  | with_reducible refine go_cbBool ?_
  | with_reducible refine go_cbAbs ?_
  | with_reducible refine go_cbMax ?_
  | with_reducible refine go_cbMin ?_
  | with_reducible refine go_cb ?_
  | with_reducible refine go_int ?_
  | with_reducible refine go_intb ?_
  | with_reducible refine go_booli ?_
  | with_reducible refine go_boolb ?_
  | with_reducible refine go_abs ?_
  | with_reducible refine go_max ?_
  | with_reducible refine go_min ?_
  | with_reducible refine go_test ?_
  | with_reducible refine go_k ?_
  | with_reducible refine go_ifS ?_
  | with_reducible refine iteT ?_
  | with_reducible refine iteF ?_
  | with_reducible refine go_nT ?_
  | with_reducible refine go_nF ?_
  | with_reducible refine go_ret ?_
  | with_reducible refine go_gcd ?_
  | with_reducible refine go_i0 ?_
  | ((with_reducible apply go_pow); (focus (walk_at "num")); (focus (first | (dsimp only [Int.reduceToNat, Int.reducePow]; done) | (dsimp only [Int.reduceToNat, Int.reducePow]; exact rfl))))
  | ((with_reducible refine go_i ?_ ?_); (focus (walk_at "num")))
  | with_reducible refine go_un ?_
  | with_reducible refine go_u ?_
  | with_reducible refine go_B ?_
  | with_reducible refine go_and ?_
  | with_reducible refine go_or ?_
  | with_reducible refine go_not ?_
  | with_reducible refine go_andV ?_
  | with_reducible refine go_orV ?_
  | with_reducible refine go_notV ?_
  | with_reducible refine go_if ?_
  | with_reducible refine go_next ?_
  | with_reducible refine go_retN ?_
  | with_reducible refine go_drop ?_
  | with_reducible refine go_lst ?_
  | with_reducible refine go_tup ?_
  | ((with_reducible refine newL_raw ?_ ?_); (focus (exact Nat.le_of_ble_eq_true rfl)))
  | ((with_reducible refine newT_raw ?_ ?_); (focus (exact Nat.le_of_ble_eq_true rfl)))
  | with_reducible refine go_fld ?_
  | ((with_reducible apply go_fldx); (focus (walk_at "hp")); (focus assumption); (focus assumption); (focus (walk_at "lk")))
  | with_reducible refine go_cval ?_
  | ((with_reducible apply go_cvalx); (focus assumption); (focus assumption))
  | with_reducible refine go_sfld ?_
  | ((with_reducible apply go_sfldx); (focus (walk_at "hp")); (focus assumption); (focus assumption); (focus (walk_at "put")); (focus (exact Nat.le_of_ble_eq_true rfl)))
  | with_reducible refine go_par ?_
  | ((with_reducible apply go_par2); (focus (first | (dsimp only [List.set, Int.reduceToNat]; done) | (dsimp only [List.set, Int.reduceToNat]; exact rfl))))
  | with_reducible refine go_sub ?_
  | ((with_reducible apply go_ixl); (focus (walk_at "sq")); (focus (exact rfl)))
  | ((with_reducible apply go_ixt); (focus (walk_at "sq")); (focus (exact rfl)))
  | ((with_reducible refine go_eq ?_ ?_); (focus (exact rfl)))
  | ((with_reducible refine go_ne ?_ ?_); (focus (exact rfl)))
  | with_reducible refine go_chain ?_
  | with_reducible refine go_yes ?_
  | with_reducible refine go_mko ?_
  | with_reducible refine go_ost ?_
  | with_reducible refine go_lc ?_
  | with_reducible refine go_make ?_
  | with_reducible refine go_maked ?_
  | with_reducible refine go_bma ?_
  | ((with_reducible apply go_bmax); (focus (walk_at "sq")))
  | with_reducible refine go_dnew ?_
  | with_reducible refine go_meth ?_
  | ((with_reducible apply go_methx); (focus (walk_at "hp")); (focus (walk_at "lk")))
  | ((with_reducible apply go_gtup); (focus (walk_at "sq")); (focus (exact rfl)))
  | with_reducible refine go_gcons ?_
  | with_reducible refine go_gnil ?_
  | with_reducible refine go_for ?_
  | with_reducible refine go_rng1 ?_
  | ((with_reducible refine go_rng1x ?_ ?_); (focus (exact ⟨by omega, by omega⟩)))
  | with_reducible refine go_rng2 ?_
  | ((with_reducible refine go_rng2x ?_ ?_); (focus (exact ⟨⟨by omega, by omega⟩, by omega, by omega⟩)))
  | with_reducible refine go_listI ?_
  | ((with_reducible apply go_listIx); (focus (walk_at "sq")))
  | with_reducible refine go_tupI ?_
  | ((with_reducible apply go_tupIx); (focus (walk_at "sq")))
  | with_reducible refine go_sl ?_
  | with_reducible refine go_part ?_
  | with_reducible refine go_i1 ?_
  | with_reducible refine go_nopart ?_
  | ((with_reducible apply go_rsl); (focus (walk_at "sq")))
  | ((with_reducible apply go_lstof); (focus (first | assumption | (apply Or.inl; (focus (walk_at "sq"))) | (apply Or.inr; (focus (walk_at "sq"))))))
  | ((with_reducible apply go_len); (focus (first | assumption | (apply Or.inl; (focus (walk_at "sq"))) | (apply Or.inr; (focus (walk_at "sq"))))))
  | ((with_reducible apply go_setL); (focus (walk_at "hp")); (focus (exact rfl)); (focus (first | (dsimp only [List.set, Int.reduceToNat]; done) | (dsimp only [List.set, Int.reduceToNat]; exact rfl))))))
local macro_rules | `(tactic| walk_at "pen") => `(tactic| (first
  | assumption
  | ((apply pn_sm); (focus assumption); (focus (walk_at "pen")))
  | ((apply pn_xt); (focus assumption); (focus (walk_at "pen")))
  | ((apply pn_kp); (focus assumption); (focus (walk_at "pen")); (focus (walk_at "ne")); (focus (walk_at "nc")))
  | ((apply pn_nw); (focus assumption); (focus (walk_at "pen")))))
local macro_rules | `(tactic| walk_at "kp") => `(tactic| (first
  | exact Kp.refl _ _
  | assumption
  | ((apply kp_sm); (focus assumption); (focus (walk_at "kp")))
  | ((apply kp_kp); (focus assumption); (focus (walk_at "kp")))
  | ((apply kp_ot); (focus assumption); (focus (walk_at "kp")); (focus (walk_at "no")))
  | exact Kp.put
  | ((apply kp_nw); (focus assumption); (focus (walk_at "kp")))))
local macro_rules | `(tactic| walk_at "kx") => `(tactic| (first
  | exact Kx.refl _ _
  | assumption
  | ((apply kx_sm); (focus assumption); (focus (walk_at "kx")))
  | ((apply kx_kp); (focus assumption); (focus (walk_at "kx")))
  | ((apply kx_kx); (focus assumption); (focus (walk_at "kx")))
  | ((apply kx_xt); (focus assumption); (focus (walk_at "kx")))
  | ((apply kx_ot); (focus assumption); (focus (walk_at "kx")); (focus (walk_at "nt")))))
local macro_rules | `(tactic| walk_at "sm") => `(tactic| (first
  | exact Same.refl _
  | assumption
  | ((apply sm_sm); (focus assumption); (focus (walk_at "sm")))
  | ((apply sm_ot); (focus assumption); (focus (walk_at "sm")); (focus (walk_at "no")))
  | ((apply sm_nw); (focus assumption); (focus (walk_at "sm")))))
local macro_rules | `(tactic| walk_at "tb") => `(tactic| (first
  | assumption
  | ((apply tabs_sm); (focus assumption); (focus (walk_at "tb")))
  | ((apply tabs_pn); (focus assumption); (focus (walk_at "pen")); (focus (walk_at "tb")))
  | ((apply tabs_ls); (focus assumption); (focus (walk_at "hp")); (focus (walk_at "tb")))))
local macro_rules | `(tactic| walk_at "od") => `(tactic| (first
  | assumption
  | ((apply odd_sm); (focus assumption); (focus (walk_at "od")))
  | ((apply odd_xt); (focus assumption); (focus (walk_at "od")))
  | ((apply odd_kp); (focus assumption); (focus (walk_at "od")); (focus (first | assumption | ((apply odd_new); (focus assumption); (focus (walk_at "od"))))))))
local macro_rules | `(tactic| walk_at "nt") => `(tactic| (first
  | assumption
  | ((apply nt_no); (focus assumption))
  | ((apply nt_sm); (focus assumption); (focus (walk_at "nt")))
  | ((apply nt_xt); (focus assumption); (focus (walk_at "nt")))
  | ((apply nt_pn); (focus assumption); (focus (walk_at "pen")); (focus (walk_at "nt")))
  | ((apply nt_kx); (focus assumption); (focus (walk_at "pen")); (focus (walk_at "nt")))
  | ((apply nt_kp); (focus assumption); (focus (walk_at "hp")); (focus (walk_at "nt")))))
local macro_rules | `(tactic| walk_at "ne") => `(tactic| (first
  | assumption
  | ((apply Ne.symm); (focus assumption))
  | ((apply pn_ne_new); (focus assumption); (focus (walk_at "pen")))
  | ((apply pn_ne_o); (focus assumption); (focus (intro _ z; cases z)); (focus (walk_at "pen")))
  | ((apply ne_old); (focus assumption); (focus (walk_at "hp")))
  | ((apply Ne.symm); (apply ne_old); (focus assumption); (focus (walk_at "hp")))
  | ((apply pn_ne_lst); (focus assumption); (focus (intro _ _ _ z; cases z)); (focus (walk_at "pen")))))
local macro_rules | `(tactic| walk_at "nc") => `(tactic| (first
  | assumption
  | ((apply pn_ne_newc); (focus assumption); (focus (walk_at "pen")))))
local macro_rules | `(tactic| walk_at "no") => `(tactic| (first
  | assumption
  | ((apply no_sm); (focus assumption); (focus (walk_at "no")))
  | ((apply no_pn); (focus assumption); (focus (walk_at "pen")); (focus (walk_at "no")))
  | ((apply no_kp); (focus assumption); (focus assumption); (focus (walk_at "no")))))
local macro_rules | `(tactic| walk_at "xt") => `(tactic| (first
  | exact LamX.ExtN.refl _
  | assumption
  | exact LamX.ExtN.of (by assumption)
  | ((apply xt_sm); (focus assumption); (focus (walk_at "xt")))
  | ((apply xt_xt); (focus assumption); (focus (walk_at "xt")))
  | ((apply xt_ot'); (focus assumption); (focus (walk_at "xt")); (focus (walk_at "nt")))))
local macro_rules | `(tactic| walk_at "gn") => `(tactic| repeat (first
  | with_reducible refine go_seq ?_
  | with_reducible refine go_asg ?_
  | ((with_reducible apply go_name); (focus (first | (dsimp only [List.set, Int.reduceToNat]; done) | (dsimp only [List.set, Int.reduceToNat]; exact rfl))))
  | with_reducible refine go_op ?_
  | ((with_reducible apply go_var); (focus (exact rfl)))
  | with_reducible refine go_c ?_
  | with_reducible refine go_cons ?_
  | with_reducible refine go_nil ?_
  | with_reducible refine go_call ?_
  | with_reducible refine go_cbLst ?_
  | with_reducible refine go_cbLen ?_
  | with_reducible refine go_cbInt ?_
  | with_reducible refine go_cbBool ?_
  | with_reducible refine go_cbAbs ?_
  | with_reducible refine go_cbMax ?_
  | with_reducible refine go_cbMin ?_
  | with_reducible refine go_cb ?_
  | with_reducible refine go_int ?_
  | with_reducible refine go_intb ?_
  | with_reducible refine go_booli ?_
  | with_reducible refine go_boolb ?_
  | with_reducible refine go_abs ?_
  | with_reducible refine go_max ?_
  | with_reducible refine go_min ?_
  | with_reducible refine go_test ?_
  | with_reducible refine go_k ?_
  | with_reducible refine go_ifS ?_
  | with_reducible refine iteT ?_
  | with_reducible refine iteF ?_
  | with_reducible refine go_nT ?_
  | with_reducible refine go_nF ?_
  | with_reducible refine go_ret ?_
  | with_reducible refine go_gcd ?_
  | with_reducible refine go_i0 ?_
  | ((with_reducible apply go_pow); (focus (walk_at "num")); (focus (first | (dsimp only [Int.reduceToNat, Int.reducePow]; done) | (dsimp only [Int.reduceToNat, Int.reducePow]; exact rfl))))
  | ((with_reducible refine go_i ?_ ?_); (focus (walk_at "num")))
  | with_reducible refine go_un ?_
  | with_reducible refine go_u ?_
  | with_reducible refine go_B ?_
  | with_reducible refine go_and ?_
  | with_reducible refine go_or ?_
  | with_reducible refine go_not ?_
  | with_reducible refine go_andV ?_
  | with_reducible refine go_orV ?_
  | with_reducible refine go_notV ?_
  | with_reducible refine go_if ?_
  | with_reducible refine go_next ?_
  | with_reducible refine go_retN ?_
  | with_reducible refine go_drop ?_
  | with_reducible refine go_lst ?_
  | with_reducible refine go_tup ?_
  | with_reducible refine go_fld ?_
  | ((with_reducible apply go_fldx); (focus (walk_at "hp")); (focus assumption); (focus assumption); (focus (walk_at "lk")))
  | with_reducible refine go_cval ?_
  | ((with_reducible apply go_cvalx); (focus assumption); (focus assumption))
  | with_reducible refine go_sfld ?_
  | ((with_reducible apply go_sfldx); (focus (walk_at "hp")); (focus assumption); (focus assumption); (focus (walk_at "put")); (focus (exact Nat.le_of_ble_eq_true rfl)))
  | with_reducible refine go_par ?_
  | ((with_reducible apply go_par2); (focus (first | (dsimp only [List.set, Int.reduceToNat]; done) | (dsimp only [List.set, Int.reduceToNat]; exact rfl))))
  | with_reducible refine go_sub ?_
  | ((with_reducible apply go_ixl); (focus (walk_at "sq")); (focus (exact rfl)))
  | ((with_reducible apply go_ixt); (focus (walk_at "sq")); (focus (exact rfl)))
  | ((with_reducible refine go_eq ?_ ?_); (focus (exact rfl)))
  | ((with_reducible refine go_ne ?_ ?_); (focus (exact rfl)))
  | with_reducible refine go_chain ?_
  | with_reducible refine go_yes ?_
  | with_reducible refine go_mko ?_
  | with_reducible refine go_ost ?_
  | with_reducible refine go_lc ?_
  | with_reducible refine go_make ?_
  | with_reducible refine go_maked ?_
  | with_reducible refine go_bma ?_
  | ((with_reducible apply go_bmax); (focus (walk_at "sq")))
  | with_reducible refine go_meth ?_
  | ((with_reducible apply go_methx); (focus (walk_at "hp")); (focus (walk_at "lk")))
  | ((with_reducible apply go_gtup); (focus (walk_at "sq")); (focus (exact rfl)))
  | with_reducible refine go_gcons ?_
  | with_reducible refine go_gnil ?_
  | with_reducible refine go_for ?_
  | with_reducible refine go_rng1 ?_
  | ((with_reducible refine go_rng1x ?_ ?_); (focus (exact ⟨by omega, by omega⟩)))
  | with_reducible refine go_rng2 ?_
  | ((with_reducible refine go_rng2x ?_ ?_); (focus (exact ⟨⟨by omega, by omega⟩, by omega, by omega⟩)))
  | with_reducible refine go_listI ?_
  | ((with_reducible apply go_listIx); (focus (walk_at "sq")))
  | with_reducible refine go_tupI ?_
  | ((with_reducible apply go_tupIx); (focus (walk_at "sq")))
  | with_reducible refine go_sl ?_
  | with_reducible refine go_part ?_
  | with_reducible refine go_i1 ?_
  | with_reducible refine go_nopart ?_
  | ((with_reducible apply go_len); (focus (first | assumption | (apply Or.inl; (focus (walk_at "sq"))) | (apply Or.inr; (focus (walk_at "sq"))))))
  | ((with_reducible apply go_setL); (focus (walk_at "hp")); (focus (exact rfl)); (focus (first | (dsimp only [List.set, Int.reduceToNat]; done) | (dsimp only [List.set, Int.reduceToNat]; exact rfl))))))
local macro_rules | `(tactic| walk_at "sz") => `(tactic| (first
  | exact Nat.le_of_ble_eq_true rfl
  | omega
  | ((simp only [List.length_append, List.length_cons, List.length_nil, List.length_map]); omega)))
local macro_rules | `(tactic| walk_at "ls") => `(tactic| (first
  | (dsimp only [Int.reduceToNat, List.replicate, List.flatten_cons, List.flatten_nil, List.cons_append, List.nil_append]; done)
  | (dsimp only [Int.reduceToNat, List.replicate, List.flatten_cons, List.flatten_nil, List.cons_append, List.nil_append]; exact rfl)
  | exact rfl))
local macro_rules | `(tactic| walk_at "gm1") => `(tactic| (first
  | with_reducible refine go_seq ?_
  | with_reducible refine go_asg ?_
  | ((with_reducible apply go_name); (focus (first | (dsimp only [List.set, Int.reduceToNat]; done) | (dsimp only [List.set, Int.reduceToNat]; exact rfl))))
  | with_reducible refine go_op ?_
  | ((with_reducible apply go_var); (focus (exact rfl)))
  | with_reducible refine go_c ?_
  | with_reducible refine go_cons ?_
  | with_reducible refine go_nil ?_
  | with_reducible refine go_call ?_
  | with_reducible refine go_calld ?_
  | with_reducible refine go_cbLst ?_
  | with_reducible refine go_cbLen ?_
  | with_reducible refine go_cbInt ?_
  | with_reducible refine go_cbBool ?_
  | with_reducible refine go_cbAbs ?_
  | with_reducible refine go_cbMax ?_
  | with_reducible refine go_cbMin ?_
  | with_reducible refine go_cb ?_
  | with_reducible refine go_int ?_
  | with_reducible refine go_intb ?_
  | with_reducible refine go_booli ?_
  | with_reducible refine go_boolb ?_
  | with_reducible refine go_abs ?_
  | with_reducible refine go_max ?_
  | with_reducible refine go_min ?_
  | with_reducible refine go_test ?_
  | with_reducible refine go_k ?_
  | with_reducible refine go_ifS ?_
  | with_reducible refine iteT ?_
  | with_reducible refine iteF ?_
  | with_reducible refine go_nT ?_
  | with_reducible refine go_nF ?_
  | with_reducible refine go_nnF ?_
  | with_reducible refine go_nnT ?_
  | with_reducible refine scal_bl ?_
  | with_reducible refine scal_nbl ?_
  | with_reducible refine go_ret ?_
  | with_reducible refine go_gcd ?_
  | with_reducible refine go_i0 ?_
  | ((with_reducible apply go_pow); (focus (walk_at "num")); (focus (first | (dsimp only [Int.reduceToNat, Int.reducePow]; done) | (dsimp only [Int.reduceToNat, Int.reducePow]; exact rfl))))
  | ((with_reducible refine go_i ?_ ?_); (focus (walk_at "num")))
  | with_reducible refine go_un ?_
  | with_reducible refine go_u ?_
  | with_reducible refine go_B ?_
  | with_reducible refine go_and ?_
  | with_reducible refine go_or ?_
  | with_reducible refine go_not ?_
  | with_reducible refine go_andV ?_
  | with_reducible refine go_orV ?_
  | with_reducible refine go_notV ?_
  | with_reducible refine go_if ?_
  | with_reducible refine go_next ?_
  | with_reducible refine go_retN ?_
  | with_reducible refine go_drop ?_
  | with_reducible refine go_lst ?_
  | with_reducible refine go_tup ?_
  | with_reducible refine go_fld ?_
  | ((with_reducible apply go_fldx); (focus (walk_at "hp")); (focus assumption); (focus assumption); (focus (walk_at "lk")))
  | with_reducible refine go_cval ?_
  | ((with_reducible apply go_cvalx); (focus assumption); (focus assumption))
  | with_reducible refine go_sfld ?_
  | ((with_reducible apply go_sfldx); (focus (walk_at "hp")); (focus assumption); (focus assumption); (focus (walk_at "put")); (focus (exact Nat.le_of_ble_eq_true rfl)))
  | with_reducible refine go_par ?_
  | ((with_reducible apply go_par2); (focus (first | (dsimp only [List.set, Int.reduceToNat]; done) | (dsimp only [List.set, Int.reduceToNat]; exact rfl))))
  | with_reducible refine go_par3 ?_
  | ((with_reducible apply go_par3x); (focus (first | (dsimp only [List.set, Int.reduceToNat]; done) | (dsimp only [List.set, Int.reduceToNat]; exact rfl))))
  | with_reducible refine go_sub ?_
  | ((with_reducible apply go_ixl); (focus (walk_at "sq")); (focus (exact rfl)))
  | ((with_reducible apply go_ixt); (focus (walk_at "sq")); (focus (exact rfl)))
  | with_reducible refine go_m0 ?_
  | with_reducible refine go_s0 ?_
  | with_reducible refine go_m1 ?_
  | with_reducible refine go_m1s ?_
  | with_reducible refine go_cm ?_
  | with_reducible refine go_cmK ?_
  | with_reducible refine go_sm ?_
  | with_reducible refine go_smK ?_
  | with_reducible refine go_mkS0 ?_
  | with_reducible refine go_lstRg ?_
  | ((with_reducible refine go_cmx ?_ ?_); (focus (exact rfl)))
  | ((with_reducible apply go_mkL); (focus (exact rfl)))
  | with_reducible refine go_strI ?_
  | with_reducible refine go_strIx ?_
  | with_reducible refine go_enumI ?_
  | ((with_reducible apply go_enumIx); (focus (walk_at "sq")))
  | with_reducible refine go_eqI ?_
  | with_reducible refine go_jsc ?_
  | with_reducible refine go_jsn ?_
  | with_reducible refine go_fmt ?_
  | with_reducible refine repr_bl ?_
  | with_reducible refine go_mkK ?_
  | ((with_reducible apply go_aug); (focus (exact rfl)))
  | with_reducible refine go_methK ?_
  | ((with_reducible apply methK_x); (focus (walk_at "hp")); (focus (walk_at "lk")))
  | with_reducible refine go_kS ?_
  | ((with_reducible apply mkK_of); (focus (exact rfl)); (focus (exact rfl)); (focus (exact fun _ => rfl)))
  | ((with_reducible apply go_own1); (focus (walk_at "hp")))
  | ((with_reducible apply go_ownA); (focus (walk_at "hp")))
  | ((with_reducible apply go_ownB); (focus (walk_at "hp")))
  | ((with_reducible apply go_ownS); (focus (walk_at "hp")))
  | ((with_reducible apply go_ownN); (focus (walk_at "hp")))
  | with_reducible refine isN_ref ?_
  | with_reducible refine isN_non ?_
  | with_reducible refine isN_int ?_
  | with_reducible refine isN_str ?_
  | with_reducible refine isN_bl ?_
  | with_reducible refine notN_ref ?_
  | with_reducible refine notN_non ?_
  | with_reducible refine notN_int ?_
  | with_reducible refine notN_str ?_
  | with_reducible refine notN_bl ?_
  | with_reducible refine go_neI ?_
  | ((with_reducible refine go_eq ?_ ?_); (focus (exact rfl)))
  | ((with_reducible refine go_ne ?_ ?_); (focus (exact rfl)))
  | with_reducible refine go_chain ?_
  | with_reducible refine go_yes ?_
  | with_reducible refine go_mko ?_
  | with_reducible refine go_ost ?_
  | with_reducible refine go_lc ?_
  | with_reducible refine go_make ?_
  | with_reducible refine go_maked ?_
  | with_reducible refine go_mkS ?_
  | with_reducible refine go_prp ?_
  | ((with_reducible apply go_prpx); (focus (walk_at "hp")))
  | with_reducible refine go_mkT ?_
  | ((with_reducible apply go_mkTx); (focus (first | assumption | (apply Or.inl; (focus (walk_at "sq"))) | (apply Or.inr; (focus (walk_at "sq"))))))
  | ((with_reducible apply go_mkTL); (focus (exact rfl)))
  | with_reducible refine go_bma ?_
  | ((with_reducible apply go_bmax); (focus (walk_at "sq")))
  | with_reducible refine go_bmp ?_
  | ((with_reducible apply go_bmpx); (focus (walk_at "sq")))
  | with_reducible refine go_meth ?_
  | ((with_reducible apply go_methx); (focus (walk_at "hp")); (focus (walk_at "lk")))
  | ((with_reducible apply go_gtup); (focus (walk_at "sq")); (focus (exact rfl)))
  | ((with_reducible apply go_glst); (focus (walk_at "sq")); (focus (exact rfl)))
  | ((with_reducible refine disp1_gm ?_); (intro _ _ _ _ _))
  | with_reducible refine go_gcons ?_
  | with_reducible refine go_gnil ?_
  | with_reducible refine go_for ?_
  | with_reducible refine go_rng1 ?_
  | ((with_reducible refine go_rng1x ?_ ?_); (focus (exact ⟨by omega, by omega⟩)))
  | with_reducible refine go_rng2 ?_
  | ((with_reducible refine go_rng2x ?_ ?_); (focus (exact ⟨⟨by omega, by omega⟩, by omega, by omega⟩)))
  | with_reducible refine go_listI ?_
  | ((with_reducible apply go_listIx); (focus (walk_at "sq")))
  | with_reducible refine go_tupI ?_
  | ((with_reducible apply go_tupIx); (focus (walk_at "sq")))
  | with_reducible refine go_sl ?_
  | with_reducible refine go_part ?_
  | with_reducible refine go_i1 ?_
  | with_reducible refine go_nopart ?_
  | ((with_reducible apply go_len); (focus (first | assumption | (apply Or.inl; (focus (walk_at "sq"))) | (apply Or.inr; (focus (walk_at "sq"))))))
  | ((with_reducible apply go_setL); (focus (walk_at "hp")); (focus (exact rfl)); (focus (first | (dsimp only [List.set, Int.reduceToNat]; done) | (dsimp only [List.set, Int.reduceToNat]; exact rfl))))
  | ((with_reducible refine newL ?_ (fun _ _ _ _ _ => ?_)); (focus (exact Nat.le_of_ble_eq_true rfl)))
  | ((with_reducible refine newT ?_ (fun _ _ _ _ _ => ?_)); (focus (exact Nat.le_of_ble_eq_true rfl)))
  | ((with_reducible apply draw_gm); (focus (walk_at "pen")); (focus omega); (focus omega); (focus omega); (intro _ _ _ _ _ _))
  | ((with_reducible apply pick_gm); (focus (walk_at "pen")); (focus omega); (focus (walk_at "hp")); (focus (walk_at "ne")); (focus (intro z; cases z)); (focus (exact Nat.le_of_ble_eq_true rfl)); (intro _ _ _ _ _))
  | ((with_reducible apply app_gm); (focus (walk_at "hp")); (focus (walk_at "sz")); (focus (walk_at "ls")); (intro _ _ _))
  | ((with_reducible apply rep_gm); (focus (walk_at "hp")); (focus (decide)); (focus (decide)); (focus (walk_at "sz")); (focus (walk_at "ls")); (intro _ _ _ _ _))
  | ((with_reducible apply cat_gm); (focus (walk_at "hp")); (focus (walk_at "hp")); (focus (walk_at "ls")); (focus (walk_at "sz")); (intro _ _ _ _ _))
  | ((with_reducible apply lstof_gm); (focus (first | assumption | (apply Or.inl; (focus (walk_at "sq"))) | (apply Or.inr; (focus (walk_at "sq"))))); (intro _ _ _ _ _))
  | ((with_reducible apply dnew_gm); (intro _ _ _ _ _))
  | ((with_reducible apply sl_gm); (focus (walk_at "sq")); (intro _ _ _ _ _))
  | ((with_reducible apply pickt_gm); (focus (walk_at "pen")); (focus omega); (focus (walk_at "hp")); (focus (walk_at "ne")); (focus (intro z; cases z)); (focus (exact Nat.le_of_ble_eq_true rfl)); (intro _ _ _ _ _))))
local macro_rules | `(tactic| walk_at "gm") => `(tactic| repeat (walk_at "gm1"))
namespace K05
open PySem PySem.Spec PyProof.Rows L2 CT
open He (ga ma fAd)
def top (i : Nat) : Stmt := PySem.Challenge.pw_creditturns_k05_ratios_written_and_read.main.body.getD i (.Pass ⟨0, 0, 0, 0⟩)
abbrev s_is_integer : Stmt := top 8
theorem sc_is_integer : FnScope ["value"] ["value"] (defScope s_is_integer) := ⟨rfl, rfl, rfl, by decide +kernel, rfl, by decide +kernel, by decide +kernel⟩
abbrev s_is_figures : Stmt := top 10
theorem sc_is_figures : FnScope ["word"] ["word"] (defScope s_is_figures) := ⟨rfl, rfl, rfl, by decide +kernel, rfl, by decide +kernel, by decide +kernel⟩
abbrev s_Ratio___init__ : Stmt := inClass (top 14) 0
theorem sc_Ratio___init__ : FnScope ["self", "top", "bottom", "shared"] ["self", "top", "bottom"] (defScope s_Ratio___init__) := ⟨rfl, rfl, rfl, by decide +kernel, rfl, by decide +kernel, by decide +kernel⟩
abbrev s_Ratio___eq__ : Stmt := inClass (top 14) 21
theorem sc_Ratio___eq__ : FnScope ["self", "other"] ["self", "other"] (defScope s_Ratio___eq__) := ⟨rfl, rfl, rfl, by decide +kernel, rfl, by decide +kernel, by decide +kernel⟩
abbrev s_Ratio___str__ : Stmt := inClass (top 14) 22
theorem sc_Ratio___str__ : FnScope ["self"] ["self"] (defScope s_Ratio___str__) := ⟨rfl, rfl, rfl, by decide +kernel, rfl, by decide +kernel, by decide +kernel⟩
abbrev s_BadText___init__ : Stmt := inClass (top 6) 0
theorem sc_BadText___init__ : FnScope ["self", "line", "word"] ["self", "line", "word"] (defScope s_BadText___init__) := ⟨rfl, rfl, rfl, by decide +kernel, rfl, by decide +kernel, by decide +kernel⟩
abbrev s_check_text : Stmt := top 11
theorem sc_check_text : FnScope ["text"] ["text"] (defScope s_check_text) := ⟨rfl, rfl, rfl, by decide +kernel, rfl, by decide +kernel, by decide +kernel⟩
abbrev s_is_readable : Stmt := top 21
theorem sc_is_readable : FnScope ["word"] ["word"] (defScope s_is_readable) := ⟨rfl, rfl, rfl, by decide +kernel, rfl, by decide +kernel, by decide +kernel⟩
abbrev s_Ratio_read : Stmt := inClass (top 14) 1
theorem sc_Ratio_read : FnScope ["cls", "text", "figures", "top", "bottom", "ratio", "word"] ["cls", "text"] (defScope s_Ratio_read) := ⟨rfl, rfl, rfl, by decide +kernel, rfl, by decide +kernel, by decide +kernel⟩
abbrev s__law_pen : Stmt := top 23
theorem sc__law_pen : FnScope ["_law_script"] ["_law_script"] (defScope s__law_pen) := ⟨rfl, rfl, rfl, by decide +kernel, rfl, by decide +kernel, by decide +kernel⟩
abbrev s__law_draw : Stmt := top 24
theorem sc__law_draw : FnScope ["_law_pen_here", "_law_many", "_law_digit", "_law_begun", "_law_cell", "_law_great", "_law_mixed"] ["_law_pen_here", "_law_many"] (defScope s__law_draw) := ⟨rfl, rfl, rfl, by decide +kernel, rfl, by decide +kernel, by decide +kernel⟩
abbrev s__law_pick : Stmt := top 25
theorem sc__law_pick : FnScope ["_law_pen_here", "_law_some"] ["_law_pen_here", "_law_some"] (defScope s__law_pick) := ⟨rfl, rfl, rfl, by decide +kernel, rfl, by decide +kernel, by decide +kernel⟩
abbrev s__law_size : Stmt := top 26
theorem sc__law_size : FnScope ["_law_pen_here", "_law_size_here", "_law_found"] ["_law_pen_here"] (defScope s__law_size) := ⟨rfl, rfl, rfl, by decide +kernel, rfl, by decide +kernel, by decide +kernel⟩
abbrev s__law_pair : Stmt := top 27
theorem sc__law_pair : FnScope ["_law_pen_here", "_law_low", "_law_by"] ["_law_pen_here"] (defScope s__law_pair) := ⟨rfl, rfl, rfl, by decide +kernel, rfl, by decide +kernel, by decide +kernel⟩
abbrev s__law_divisor : Stmt := top 28
theorem sc__law_divisor : FnScope ["_law_one", "_law_other", "_law_high", "_law_low"] ["_law_one", "_law_other"] (defScope s__law_divisor) := ⟨rfl, rfl, rfl, by decide +kernel, rfl, by decide +kernel, by decide +kernel⟩
abbrev s__law_is_count : Stmt := top 29
theorem sc__law_is_count : FnScope ["_law_word", "_law_sign"] ["_law_word"] (defScope s__law_is_count) := ⟨rfl, rfl, rfl, by decide +kernel, rfl, by decide +kernel, by decide +kernel⟩
abbrev s__law_is_text : Stmt := top 30
theorem sc__law_is_text : FnScope ["_law_line", "_law_head_so", "_law_sign", "_law_tail", "_law_bare"] ["_law_line"] (defScope s__law_is_text) := ⟨rfl, rfl, rfl, by decide +kernel, rfl, by decide +kernel, by decide +kernel⟩
abbrev s__law_bent : Stmt := top 31
theorem sc__law_bent : FnScope ["_law_pen_here", "_law_line", "_law_way", "_law_at", "_law_sign"] ["_law_pen_here", "_law_line"] (defScope s__law_bent) := ⟨rfl, rfl, rfl, by decide +kernel, rfl, by decide +kernel, by decide +kernel⟩
abbrev s__law_heard : Stmt := top 32
theorem sc__law_heard : FnScope ["_law_text_so", "_law_caught", "_law_found", "error"] ["_law_text_so"] (defScope s__law_heard) := ⟨rfl, rfl, rfl, by decide +kernel, rfl, by decide +kernel, by decide +kernel⟩
abbrev s_law : Stmt := top 33
theorem sc_law : FnScope ["_law_script", "_law_pen_here", "_law_lap", "_law_high", "_law_low", "_law_shared", "_law_top_so", "_law_base", "_law_line", "_law_bent_here", "_law_odd", "_law_some"] ["_law_script"] (defScope s_law) := ⟨rfl, rfl, rfl, by decide +kernel, rfl, by decide +kernel, by decide +kernel⟩
def sys : Sys := {
  fa := [.free "int", .free "isinstance", .free "bool", .glo "Ratio", .free "str", .free "len", .int "MOST_FIGURES" (4000), .free "all", .free "list", .free "abs", .glo "CreditError", .glo "BadText", .free "range", .glo "law", .glo "is_integer", .glo "is_figures", .glo "check_text", .glo "is_readable", .glo "_law_pen", .glo "_law_draw", .glo "_law_pick", .glo "_law_size", .glo "_law_pair", .glo "_law_divisor", .glo "_law_is_count", .glo "_law_is_text", .glo "_law_bent", .glo "_law_heard", .noat "BadText" "line", .noat "BadText" "word", .cls "Ratio", .mkr "Ratio", .noat "Ratio" "top", .noat "Ratio" "bottom"],
  fc := [.bfun "gcd" "math.gcd", .exo "BadText", .exb "BadText", .ins "Ratio", .ne "Ratio", .cread "Ratio", .op "Ratio" "__eq__", .op "Ratio" "__str__", .cmet "Ratio" "read", .first "Ratio" (.own "Ratio"), .kit (.own "Ratio") (.own "Ratio") true, .kit (.own "BadText") (.own "BadText") true, .kit (.own "Ratio") (.ty "str") false, .exm "BadText" "CreditError" true, .nodig],
  fn := [{ at_ := .fn "is_integer", name := "is_integer", qual := "is_integer", st := s_is_integer },
    { at_ := .fn "is_figures", name := "is_figures", qual := "is_figures", st := s_is_figures },
    { at_ := .me "Ratio" "__init__", name := "__init__", qual := "Ratio.__init__", st := s_Ratio___init__, dfl := [.int (1)] },
    { at_ := .me "Ratio" "__eq__", name := "__eq__", qual := "Ratio.__eq__", st := s_Ratio___eq__ },
    { at_ := .me "Ratio" "__str__", name := "__str__", qual := "Ratio.__str__", st := s_Ratio___str__ },
    { at_ := .me "BadText" "__init__", name := "__init__", qual := "BadText.__init__", st := s_BadText___init__ },
    { at_ := .fn "check_text", name := "check_text", qual := "check_text", st := s_check_text },
    { at_ := .fn "is_readable", name := "is_readable", qual := "is_readable", st := s_is_readable },
    { at_ := .cm "Ratio" "read", name := "read", qual := "Ratio.read", st := s_Ratio_read },
    { at_ := .fn "_law_pen", name := "_law_pen", qual := "_law_pen", st := s__law_pen },
    { at_ := .fn "_law_draw", name := "_law_draw", qual := "_law_draw", st := s__law_draw },
    { at_ := .fn "_law_pick", name := "_law_pick", qual := "_law_pick", st := s__law_pick },
    { at_ := .fn "_law_size", name := "_law_size", qual := "_law_size", st := s__law_size },
    { at_ := .fn "_law_pair", name := "_law_pair", qual := "_law_pair", st := s__law_pair },
    { at_ := .fn "_law_divisor", name := "_law_divisor", qual := "_law_divisor", st := s__law_divisor },
    { at_ := .fn "_law_is_count", name := "_law_is_count", qual := "_law_is_count", st := s__law_is_count },
    { at_ := .fn "_law_is_text", name := "_law_is_text", qual := "_law_is_text", st := s__law_is_text },
    { at_ := .fn "_law_bent", name := "_law_bent", qual := "_law_bent", st := s__law_bent },
    { at_ := .fn "_law_heard", name := "_law_heard", qual := "_law_heard", st := s__law_heard },
    { at_ := .fn "law", name := "law", qual := "law", st := s_law }],
  tf := [] }
section
open PySem.W
/-! ### the Hook, over a list of addresses written out -/
def asl : List Addr := ([3, 6, 4, 49, 59, 72, 91, 110, 119, 126, 133, 306, 317, 324, 331, 338, 345, 352, 359, 366, 373, 380, 387, 394, 401, 406, 413, 420, 427, 432, 0, 48, 58, 71, 90, 109, 118, 125, 132, 305, 316, 323, 330, 337, 344, 351, 358, 365, 372, 379, 386, 393, 400, 405, 412, 419, 426, 431, 43, 44] : List Addr) ++ ([45, 46, 47, 57, 60, 70, 88, 89, 107, 108, 113, 114, 115, 116, 117, 120, 121, 122, 123, 124, 127, 128, 129, 130, 131, 148, 155, 163, 170, 177, 184, 191, 198, 205, 212, 219, 226, 233, 240, 247, 254, 261, 268, 275, 282, 289, 296, 303, 304, 307, 308, 311, 312, 313, 314, 315, 318, 319, 320, 321] : List Addr) ++ ([322, 325, 326, 327, 328, 329, 332, 333, 334, 335, 336, 339, 340, 341, 342, 343, 346, 347, 348, 349, 350, 353, 354, 355, 356, 357, 360, 361, 362, 363, 364, 367, 368, 369, 370, 371, 374, 375, 376, 377, 378, 381, 382, 383, 384, 385, 388, 389, 390, 391, 392, 395, 396, 397, 398, 399, 402, 403, 404, 407] : List Addr) ++ ([408, 409, 410, 411, 414, 415, 416, 417, 418, 421, 422, 423, 424, 425, 428, 429, 430, 87, 106, 147, 141, 153, 154, 162, 169, 176, 183, 190, 197, 204, 211, 218, 225, 232, 239, 246, 253, 260, 267, 274, 281, 288, 295, 302, 82, 83, 84, 85, 86, 101, 102, 103, 104, 105, 142, 143, 144, 145, 146, 152] : List Addr) ++ ([156, 157, 158, 159, 160, 161, 164, 165, 166, 167, 168, 171, 172, 173, 174, 175, 178, 179, 180, 181, 182, 185, 186, 187, 188, 189, 192, 193, 194, 195, 196, 199, 200, 201, 202, 203, 206, 207, 208, 209, 210, 213, 214, 215, 216, 217, 220, 221, 222, 223, 224, 227, 228, 229, 230, 231, 234, 235, 236, 237] : List Addr) ++ ([238, 241, 242, 243, 244, 245, 248, 249, 250, 251, 252, 255, 256, 257, 258, 259, 262, 263, 264, 265, 266, 269, 270, 271, 272, 273, 276, 277, 278, 279, 280, 283, 284, 285, 286, 287, 290, 291, 292, 293, 294, 297, 298, 299, 300, 301] : List Addr) ++ [cStatics, sysModules]
def obsL (y : Sys) (g : Addr → Option Obj) : AlC := (obsK y (He.frT g asl) && tabsC g y.tf (He.frT g asl), y.fn.map fun d => fnWa (He.frT g asl) (d.at_.adr (He.frT g asl)))
theorem saysL_of {y : Sys} {h : Heap} (e : obsL y h.get? = valC y) : SaysC y h (He.frT h.get? asl) := by
  obtain ⟨h1, h2⟩ := Bool.and_eq_true_iff.mp (show (obsK y (He.frT h.get? asl) && tabsC h.get? y.tf (He.frT h.get? asl)) = true from congrArg (fun z : AlC => z.1) e)
  have key : ∀ p ∈ y.tf, PySem.W.codeHdIn (He.frT h.get? asl) (tabAt (He.frT h.get? asl) (p.adr (He.frT h.get? asl))).1 (tabAt (He.frT h.get? asl) (p.adr (He.frT h.get? asl))).2 = true ∧
      ∃ o, h.get? (tabAt (He.frT h.get? asl) (p.adr (He.frT h.get? asl))).2 = some o ∧ He.emptyTab o = true := fun p hp => by
    obtain ⟨h3, h4⟩ := Bool.and_eq_true_iff.mp (List.all_eq_true.mp h2 p hp)
    refine ⟨h3, ?_⟩
    split at h4
    · rename_i o q
      exact ⟨o, q, h4⟩
    · cases h4
  refine ⟨h1, congrArg (fun z : AlC => z.2) e, fun p hp => (key p hp).1, fun p hp => ?_, fun p hp => ?_⟩
  · obtain ⟨_, o, q, z⟩ := key p hp
    exact He.frT_none q z
  · obtain ⟨_, o, q, z⟩ := key p hp
    rw [q, He.emptyTab_eq z]
def hookL (y : Sys) : Hook where
  α := AlC
  obs := fun s => obsL y s.heap.get?
  val := fun _ => valC y
  says := fun _ h => ∃ K : Frag, K.In h ∧ SaysC y h K
  of := fun _ _ e => ⟨_, He.frT_in, saysL_of e⟩
  keeps := fun _ _ _ ⟨K, hK, c⟩ k => ⟨K, Frag.In.keeps hK k, ⟨c.k, c.d, c.hd, c.out, fun p hp => k _ _ (c.empty p hp)⟩⟩
theorem obsL_eq {y : Sys} {g : Addr → Option Obj} {s : Shared} (h : ∀ a, g a = s.heap.get? a) : obsL y g = (hookL y).obs s := by
  have e : g = s.heap.get? := funext h
  rw [e] <;> rfl
def loose : List PySem.Str := ([Str.ofString "_wall", Str.ofString "CreditError", Str.ofString "BadInput", Str.ofString "BadRatio", Str.ofString "BadText", Str.ofString "is_integer", Str.ofString "is_figures", Str.ofString "check_text", Str.ofString "MOST_FIGURES", Str.ofString "Ratio", Str.ofString "as_ratio", Str.ofString "sum_of", Str.ofString "product_of", Str.ofString "whole_times", Str.ofString "what_is_left", Str.ofString "is_below", Str.ofString "is_readable", Str.ofString "_law_pen", Str.ofString "_law_draw", Str.ofString "_law_pick", Str.ofString "_law_size", Str.ofString "_law_pair", Str.ofString "_law_divisor", Str.ofString "_law_is_count", Str.ofString "_law_is_text", Str.ofString "_law_bent", Str.ofString "_law_heard"] : List PySem.Str)
abbrev R : OpenRow := OpenLaw.row PySem.Challenge.rw_creditturns_k05_ratios_written_and_read
abbrev q : Program := view R.prog [0, 33]
abbrev hk : Hook := hookL sys
def ob (s : SharedT) : AlC := obsL sys (HandSHeadRun.getT s)
theorem ob_eq (s : SharedT) : ob s = hk.obs s.abs := obsL_eq (HandSHeadRun.getT_eq s)
theorem run (w : World) : HandSHeadRun.RunEqI R q hk ob 20000 loose w := by
  unfold HandSHeadRun.RunEqI
  kernel_rfl
end
section
variable {K : PySem.W.Frag} {mg : Str → Option Value}
theorem n_int (S : HD sys K mg) : mg "int" = none := S.free (S.fact 0)
theorem n_isinstance (S : HD sys K mg) : mg "isinstance" = none := S.free (S.fact 1)
theorem n_bool (S : HD sys K mg) : mg "bool" = none := S.free (S.fact 2)
theorem bf_gcd (S : HD sys K mg) : mg "gcd" = some (.builtin "math.gcd") := S.bfun (S.fcc 0)
theorem g_Ratio (S : HD sys K mg) : mg "Ratio" = some (.ref (ga K "Ratio")) := S.glo (S.fact 3)
theorem n_str (S : HD sys K mg) : mg "str" = none := S.free (S.fact 4)
theorem n_len (S : HD sys K mg) : mg "len" = none := S.free (S.fact 5)
theorem i_MOST_FIGURES (S : HD sys K mg) : ∃ t, mg "MOST_FIGURES" = some (.int 4000 t) := S.int (S.fact 6)
theorem n_all (S : HD sys K mg) : mg "all" = none := S.free (S.fact 7)
theorem n_list (S : HD sys K mg) : mg "list" = none := S.free (S.fact 8)
theorem n_abs (S : HD sys K mg) : mg "abs" = none := S.free (S.fact 9)
theorem g_CreditError (S : HD sys K mg) : mg "CreditError" = some (.ref (ga K "CreditError")) := S.glo (S.fact 10)
theorem g_BadText (S : HD sys K mg) : mg "BadText" = some (.ref (ga K "BadText")) := S.glo (S.fact 11)
theorem n_range (S : HD sys K mg) : mg "range" = none := S.free (S.fact 12)
theorem g_law (S : HD sys K mg) : mg "law" = some (.ref (ga K "law")) := S.glo (S.fact 13)
theorem g_is_integer (S : HD sys K mg) : mg "is_integer" = some (.ref (ga K "is_integer")) := S.glo (S.fact 14)
theorem g_is_figures (S : HD sys K mg) : mg "is_figures" = some (.ref (ga K "is_figures")) := S.glo (S.fact 15)
theorem g_check_text (S : HD sys K mg) : mg "check_text" = some (.ref (ga K "check_text")) := S.glo (S.fact 16)
theorem g_is_readable (S : HD sys K mg) : mg "is_readable" = some (.ref (ga K "is_readable")) := S.glo (S.fact 17)
theorem g__law_pen (S : HD sys K mg) : mg "_law_pen" = some (.ref (ga K "_law_pen")) := S.glo (S.fact 18)
theorem g__law_draw (S : HD sys K mg) : mg "_law_draw" = some (.ref (ga K "_law_draw")) := S.glo (S.fact 19)
theorem g__law_pick (S : HD sys K mg) : mg "_law_pick" = some (.ref (ga K "_law_pick")) := S.glo (S.fact 20)
theorem g__law_size (S : HD sys K mg) : mg "_law_size" = some (.ref (ga K "_law_size")) := S.glo (S.fact 21)
theorem g__law_pair (S : HD sys K mg) : mg "_law_pair" = some (.ref (ga K "_law_pair")) := S.glo (S.fact 22)
theorem g__law_divisor (S : HD sys K mg) : mg "_law_divisor" = some (.ref (ga K "_law_divisor")) := S.glo (S.fact 23)
theorem g__law_is_count (S : HD sys K mg) : mg "_law_is_count" = some (.ref (ga K "_law_is_count")) := S.glo (S.fact 24)
theorem g__law_is_text (S : HD sys K mg) : mg "_law_is_text" = some (.ref (ga K "_law_is_text")) := S.glo (S.fact 25)
theorem g__law_bent (S : HD sys K mg) : mg "_law_bent" = some (.ref (ga K "_law_bent")) := S.glo (S.fact 26)
theorem g__law_heard (S : HD sys K mg) : mg "_law_heard" = some (.ref (ga K "_law_heard")) := S.glo (S.fact 27)
theorem exo_BadText (S : HD sys K mg) : ExoC K (ga K "BadText") (ma K (ga K "BadText") "__init__") := exo_f (S.fcc 1) (S.fcc 2)
theorem exb_BadText (S : HD sys K mg) : XfC K (ga K "BadText") ∧ ExcC K (ga K "BadText") ∧ PySem.W.typeIn K (.ref (ga K "BadText")) = some (.type "type") := exb_f (S.fcc 2)
theorem na_BadText_line (S : HD sys K mg) : NoAttr K (ga K "BadText") "line" := He.noat_ok (S.fact 28)
theorem na_BadText_word (S : HD sys K mg) : NoAttr K (ga K "BadText") "word" := He.noat_ok (S.fact 29)
theorem C_Ratio (S : HD sys K mg) : Cls K (ga K "Ratio") := He.cls_ok (S.fact 30)
theorem mk_Ratio (S : HD sys K mg) : Mk K (ga K "Ratio") (ma K (ga K "Ratio") "__init__") := He.mkr_ok (S.fact 31)
theorem in_Ratio (S : HD sys K mg) : InsC K (ga K "Ratio") := ins_f (S.fcc 3) (He.cls_ok (S.fact 30))
theorem ne_Ratio (S : HD sys K mg) : PySem.W.findIn K (.ref (ga K "Ratio")) "__ne__" = some (some (.builtin "object.__ne__")) := ne_f (S.fcc 4)
theorem cr_Ratio (S : HD sys K mg) : ClX.CRead K (ga K "Ratio") (clsMc K (ga K "Ratio")) := cread_f (S.fcc 5)
theorem na_Ratio_top (S : HD sys K mg) : NoAttr K (ga K "Ratio") "top" := He.noat_ok (S.fact 32)
theorem na_Ratio_bottom (S : HD sys K mg) : NoAttr K (ga K "Ratio") "bottom" := He.noat_ok (S.fact 33)
theorem opf_Ratio___eq__ (S : HD sys K mg) : PySem.W.findIn K (.ref (ga K "Ratio")) "__eq__" = some (some (.ref (ma K (ga K "Ratio") "__eq__"))) ∧ PySem.W.isFn K (.ref (ma K (ga K "Ratio") "__eq__")) = true := op_f (S.fcc 6)
theorem opf_Ratio___str__ (S : HD sys K mg) : PySem.W.findIn K (.ref (ga K "Ratio")) "__str__" = some (some (.ref (ma K (ga K "Ratio") "__str__"))) ∧ PySem.W.isFn K (.ref (ma K (ga K "Ratio") "__str__")) = true := op_f (S.fcc 7)
theorem cme_Ratio_read (S : HD sys K mg) : ClX.CMet K (ga K "Ratio") (clsMc K (ga K "Ratio")) "read" (cmAt K (ga K "Ratio") "read") (recHead K (cmAt K (ga K "Ratio") "read") "classmethod") := cmet_f (S.fcc 8)
theorem fr_Ratio_o_Ratio (S : HD sys K mg) : PySem.W.notFirst K (ga K "Ratio") (Nm.val K (.own "Ratio")) = true := first_f (S.fcc 9)
theorem kit_o_Ratio__o_Ratio__true (S : HD sys K mg) : PySem.W.kitOne K (Nm.val K (.own "Ratio")) (Nm.val K (.own "Ratio")) = some true := kit_f (S.fcc 10)
theorem kit_o_BadText__o_BadText__true (S : HD sys K mg) : PySem.W.kitOne K (Nm.val K (.own "BadText")) (Nm.val K (.own "BadText")) = some true := kit_f (S.fcc 11)
theorem kit_o_Ratio__str__false (S : HD sys K mg) : PySem.W.kitOne K (Nm.val K (.own "Ratio")) (Nm.val K (.ty "str")) = some false := kit_f (S.fcc 12)
theorem exm_BadText__CreditError__true (S : HD sys K mg) : PySem.W.exmOne K (.ref (ga K "BadText")) (.ref (ga K "CreditError")) = some true := exm_f (S.fcc 13)
theorem nodig (S : HD sys K mg) : PySem.W.nsIn K cStatics "sys.int_max_str_digits" = some none := nodig_f (S.fcc 14)
theorem d_is_integer (S : HD sys K mg) : FunD K "is_integer" "is_integer" (defArgs s_is_integer) (defBody s_is_integer) (defScope s_is_integer) [] [] (Pl.adr K (.fn "is_integer")) (fdAt K (Pl.adr K (.fn "is_integer"))) := S.def_ 0
theorem b_is_integer (S : HD sys K mg) : Binds K (fdAt K (Pl.adr K (.fn "is_integer"))) ["value"] [] := (d_is_integer S).bindsN fun _ _ _ _ _ _ us hl => match us, hl with | [_], _ => rfl
theorem d_is_figures (S : HD sys K mg) : FunD K "is_figures" "is_figures" (defArgs s_is_figures) (defBody s_is_figures) (defScope s_is_figures) [] [] (Pl.adr K (.fn "is_figures")) (fdAt K (Pl.adr K (.fn "is_figures"))) := S.def_ 1
theorem b_is_figures (S : HD sys K mg) : Binds K (fdAt K (Pl.adr K (.fn "is_figures"))) ["word"] [] := (d_is_figures S).bindsN fun _ _ _ _ _ _ us hl => match us, hl with | [_], _ => rfl
theorem d_Ratio___init__ (S : HD sys K mg) : FunD K "__init__" "Ratio.__init__" (defArgs s_Ratio___init__) (defBody s_Ratio___init__) (defScope s_Ratio___init__) [V.int (1)] [] (Pl.adr K (.me "Ratio" "__init__")) (fdAt K (Pl.adr K (.me "Ratio" "__init__"))) := S.def_ 2
theorem b_Ratio___init__ (S : HD sys K mg) : Binds K (fdAt K (Pl.adr K (.me "Ratio" "__init__"))) ["self", "top", "bottom"] [] := by
  obtain ⟨ds, v, b⟩ := (d_Ratio___init__ S).binds1 (ps := ["self", "top", "bottom"]) 3 1 (by intro z; cases z) rfl (fun T kV doc pm an cdv ct us its hu hi => match us, hu, its, hi with | [_, _, _], _, [_], _ => ⟨_, rfl, rfl⟩)
  cases v
  exact b
theorem bd_Ratio___init___2 (S : HD sys K mg) : ∃ ds, Vals [V.int (1)] ds ∧ Binds K (fdAt K (Pl.adr K (.me "Ratio" "__init__"))) ["self", "top", "bottom"] ds := (d_Ratio___init__ S).binds1 (ps := ["self", "top", "bottom"]) 2 0 (by intro z; cases z) rfl (fun T kV doc pm an cdv ct us its hu hi => match us, hu, its, hi with | [_, _], _, [_], _ => ⟨_, rfl, rfl⟩)
theorem d_Ratio___eq__ (S : HD sys K mg) : FunD K "__eq__" "Ratio.__eq__" (defArgs s_Ratio___eq__) (defBody s_Ratio___eq__) (defScope s_Ratio___eq__) [] [] (Pl.adr K (.me "Ratio" "__eq__")) (fdAt K (Pl.adr K (.me "Ratio" "__eq__"))) := S.def_ 3
theorem b_Ratio___eq__ (S : HD sys K mg) : Binds K (fdAt K (Pl.adr K (.me "Ratio" "__eq__"))) ["self", "other"] [] := (d_Ratio___eq__ S).bindsN fun _ _ _ _ _ _ us hl => match us, hl with | [_, _], _ => rfl
theorem d_Ratio___str__ (S : HD sys K mg) : FunD K "__str__" "Ratio.__str__" (defArgs s_Ratio___str__) (defBody s_Ratio___str__) (defScope s_Ratio___str__) [] [] (Pl.adr K (.me "Ratio" "__str__")) (fdAt K (Pl.adr K (.me "Ratio" "__str__"))) := S.def_ 4
theorem b_Ratio___str__ (S : HD sys K mg) : Binds K (fdAt K (Pl.adr K (.me "Ratio" "__str__"))) ["self"] [] := (d_Ratio___str__ S).bindsN fun _ _ _ _ _ _ us hl => match us, hl with | [_], _ => rfl
theorem d_BadText___init__ (S : HD sys K mg) : FunD K "__init__" "BadText.__init__" (defArgs s_BadText___init__) (defBody s_BadText___init__) (defScope s_BadText___init__) [] [] (Pl.adr K (.me "BadText" "__init__")) (fdAt K (Pl.adr K (.me "BadText" "__init__"))) := S.def_ 5
theorem b_BadText___init__ (S : HD sys K mg) : Binds K (fdAt K (Pl.adr K (.me "BadText" "__init__"))) ["self", "line", "word"] [] := (d_BadText___init__ S).bindsN fun _ _ _ _ _ _ us hl => match us, hl with | [_, _, _], _ => rfl
theorem d_check_text (S : HD sys K mg) : FunD K "check_text" "check_text" (defArgs s_check_text) (defBody s_check_text) (defScope s_check_text) [] [] (Pl.adr K (.fn "check_text")) (fdAt K (Pl.adr K (.fn "check_text"))) := S.def_ 6
theorem b_check_text (S : HD sys K mg) : Binds K (fdAt K (Pl.adr K (.fn "check_text"))) ["text"] [] := (d_check_text S).bindsN fun _ _ _ _ _ _ us hl => match us, hl with | [_], _ => rfl
theorem d_is_readable (S : HD sys K mg) : FunD K "is_readable" "is_readable" (defArgs s_is_readable) (defBody s_is_readable) (defScope s_is_readable) [] [] (Pl.adr K (.fn "is_readable")) (fdAt K (Pl.adr K (.fn "is_readable"))) := S.def_ 7
theorem b_is_readable (S : HD sys K mg) : Binds K (fdAt K (Pl.adr K (.fn "is_readable"))) ["word"] [] := (d_is_readable S).bindsN fun _ _ _ _ _ _ us hl => match us, hl with | [_], _ => rfl
theorem d_Ratio_read (S : HD sys K mg) : FunD K "read" "Ratio.read" (defArgs s_Ratio_read) (defBody s_Ratio_read) (defScope s_Ratio_read) [] [] (Pl.adr K (.cm "Ratio" "read")) (fdAt K (Pl.adr K (.cm "Ratio" "read"))) := S.def_ 8
theorem b_Ratio_read (S : HD sys K mg) : Binds K (fdAt K (Pl.adr K (.cm "Ratio" "read"))) ["cls", "text"] [] := (d_Ratio_read S).bindsN fun _ _ _ _ _ _ us hl => match us, hl with | [_, _], _ => rfl
theorem d__law_pen (S : HD sys K mg) : FunD K "_law_pen" "_law_pen" (defArgs s__law_pen) (defBody s__law_pen) (defScope s__law_pen) [] [] (Pl.adr K (.fn "_law_pen")) (fdAt K (Pl.adr K (.fn "_law_pen"))) := S.def_ 9
theorem b__law_pen (S : HD sys K mg) : Binds K (fdAt K (Pl.adr K (.fn "_law_pen"))) ["_law_script"] [] := (d__law_pen S).bindsN fun _ _ _ _ _ _ us hl => match us, hl with | [_], _ => rfl
theorem d__law_draw (S : HD sys K mg) : FunD K "_law_draw" "_law_draw" (defArgs s__law_draw) (defBody s__law_draw) (defScope s__law_draw) [] [] (Pl.adr K (.fn "_law_draw")) (fdAt K (Pl.adr K (.fn "_law_draw"))) := S.def_ 10
theorem b__law_draw (S : HD sys K mg) : Binds K (fdAt K (Pl.adr K (.fn "_law_draw"))) ["_law_pen_here", "_law_many"] [] := (d__law_draw S).bindsN fun _ _ _ _ _ _ us hl => match us, hl with | [_, _], _ => rfl
theorem d__law_pick (S : HD sys K mg) : FunD K "_law_pick" "_law_pick" (defArgs s__law_pick) (defBody s__law_pick) (defScope s__law_pick) [] [] (Pl.adr K (.fn "_law_pick")) (fdAt K (Pl.adr K (.fn "_law_pick"))) := S.def_ 11
theorem b__law_pick (S : HD sys K mg) : Binds K (fdAt K (Pl.adr K (.fn "_law_pick"))) ["_law_pen_here", "_law_some"] [] := (d__law_pick S).bindsN fun _ _ _ _ _ _ us hl => match us, hl with | [_, _], _ => rfl
theorem d__law_size (S : HD sys K mg) : FunD K "_law_size" "_law_size" (defArgs s__law_size) (defBody s__law_size) (defScope s__law_size) [] [] (Pl.adr K (.fn "_law_size")) (fdAt K (Pl.adr K (.fn "_law_size"))) := S.def_ 12
theorem b__law_size (S : HD sys K mg) : Binds K (fdAt K (Pl.adr K (.fn "_law_size"))) ["_law_pen_here"] [] := (d__law_size S).bindsN fun _ _ _ _ _ _ us hl => match us, hl with | [_], _ => rfl
theorem d__law_pair (S : HD sys K mg) : FunD K "_law_pair" "_law_pair" (defArgs s__law_pair) (defBody s__law_pair) (defScope s__law_pair) [] [] (Pl.adr K (.fn "_law_pair")) (fdAt K (Pl.adr K (.fn "_law_pair"))) := S.def_ 13
theorem b__law_pair (S : HD sys K mg) : Binds K (fdAt K (Pl.adr K (.fn "_law_pair"))) ["_law_pen_here"] [] := (d__law_pair S).bindsN fun _ _ _ _ _ _ us hl => match us, hl with | [_], _ => rfl
theorem d__law_divisor (S : HD sys K mg) : FunD K "_law_divisor" "_law_divisor" (defArgs s__law_divisor) (defBody s__law_divisor) (defScope s__law_divisor) [] [] (Pl.adr K (.fn "_law_divisor")) (fdAt K (Pl.adr K (.fn "_law_divisor"))) := S.def_ 14
theorem b__law_divisor (S : HD sys K mg) : Binds K (fdAt K (Pl.adr K (.fn "_law_divisor"))) ["_law_one", "_law_other"] [] := (d__law_divisor S).bindsN fun _ _ _ _ _ _ us hl => match us, hl with | [_, _], _ => rfl
theorem d__law_is_count (S : HD sys K mg) : FunD K "_law_is_count" "_law_is_count" (defArgs s__law_is_count) (defBody s__law_is_count) (defScope s__law_is_count) [] [] (Pl.adr K (.fn "_law_is_count")) (fdAt K (Pl.adr K (.fn "_law_is_count"))) := S.def_ 15
theorem b__law_is_count (S : HD sys K mg) : Binds K (fdAt K (Pl.adr K (.fn "_law_is_count"))) ["_law_word"] [] := (d__law_is_count S).bindsN fun _ _ _ _ _ _ us hl => match us, hl with | [_], _ => rfl
theorem d__law_is_text (S : HD sys K mg) : FunD K "_law_is_text" "_law_is_text" (defArgs s__law_is_text) (defBody s__law_is_text) (defScope s__law_is_text) [] [] (Pl.adr K (.fn "_law_is_text")) (fdAt K (Pl.adr K (.fn "_law_is_text"))) := S.def_ 16
theorem b__law_is_text (S : HD sys K mg) : Binds K (fdAt K (Pl.adr K (.fn "_law_is_text"))) ["_law_line"] [] := (d__law_is_text S).bindsN fun _ _ _ _ _ _ us hl => match us, hl with | [_], _ => rfl
theorem d__law_bent (S : HD sys K mg) : FunD K "_law_bent" "_law_bent" (defArgs s__law_bent) (defBody s__law_bent) (defScope s__law_bent) [] [] (Pl.adr K (.fn "_law_bent")) (fdAt K (Pl.adr K (.fn "_law_bent"))) := S.def_ 17
theorem b__law_bent (S : HD sys K mg) : Binds K (fdAt K (Pl.adr K (.fn "_law_bent"))) ["_law_pen_here", "_law_line"] [] := (d__law_bent S).bindsN fun _ _ _ _ _ _ us hl => match us, hl with | [_, _], _ => rfl
theorem d__law_heard (S : HD sys K mg) : FunD K "_law_heard" "_law_heard" (defArgs s__law_heard) (defBody s__law_heard) (defScope s__law_heard) [] [] (Pl.adr K (.fn "_law_heard")) (fdAt K (Pl.adr K (.fn "_law_heard"))) := S.def_ 18
theorem b__law_heard (S : HD sys K mg) : Binds K (fdAt K (Pl.adr K (.fn "_law_heard"))) ["_law_text_so"] [] := (d__law_heard S).bindsN fun _ _ _ _ _ _ us hl => match us, hl with | [_], _ => rfl
theorem d_law (S : HD sys K mg) : FunD K "law" "law" (defArgs s_law) (defBody s_law) (defScope s_law) [] [] (Pl.adr K (.fn "law")) (fdAt K (Pl.adr K (.fn "law"))) := S.def_ 19
theorem b_law (S : HD sys K mg) : Binds K (fdAt K (Pl.adr K (.fn "law"))) ["_law_script"] [] := (d_law S).bindsN fun _ _ _ _ _ _ us hl => match us, hl with | [_], _ => rfl
end
section
variable {K : PySem.W.Frag} {mg : Str → Option Value}
/-! ### checks of any value -/
def NoStr (K : PySem.W.Frag) (H : Hp) (v : V) : Prop := ∃ t : Value, TyX K H v t ∧ PySem.W.kitOne K t (.type "str") = some false
def NoInt (K : PySem.W.Frag) (H : Hp) (v : V) : Prop := ∃ (t : Value) (bi bb : Bool), TyX K H v t ∧ PySem.W.kitOne K t (.type "int") = some bi ∧ PySem.W.kitOne K t (.type "bool") = some bb ∧ (bi && !bb) = false
def spIsInt (K : PySem.W.Frag) : Sp := fun vs H Q _ => ∃ (x : V) (t : Value) (bi bb : Bool), vs = [x] ∧ TyX K H x t ∧ PySem.W.kitOne K t (.type "int") = some bi ∧ PySem.W.kitOne K t (.type "bool") = some bb ∧
  Q (.bl (bi && !bb)) H
theorem isInt_int {K : PySem.W.Frag} {H : Hp} {Q : VK} {E : XK} {i : Int} (k : Q (.bl true) H) : spIsInt K [.int i] H Q E :=
  ⟨_, _, true, false, rfl, .base (.int i), kit_ty (by decide +kernel), kit_ty (by decide +kernel), k⟩
theorem isInt_no {K : PySem.W.Frag} {H : Hp} {Q : VK} {E : XK} {v : V} (h : NoInt K H v) (k : Q (.bl false) H) : spIsInt K [v] H Q E := by
  obtain ⟨t, bi, bb, ty, k1, k2, k3⟩ := h
  refine ⟨_, _, bi, bb, rfl, ty, k1, k2, ?_⟩
  rw [k3]
  exact k
theorem fk_cl_is_integer {P : Program} {w : World} {base : Heap} (S : HD sys K mg) : FnOk P w K mg base CX0 1 (Pl.adr K (Pl.fn "is_integer")) (fdAt K (Pl.adr K (Pl.fn "is_integer"))) ["value"] (spIsInt K) := by
  refine (d_is_integer S).ok sc_is_integer (fun vs H Q E h => ?_) (fun cdv A outer s H vs Q E hr h => ?_)
  · repeat (first | (obtain ⟨rfl, _⟩ := h; rfl) | (obtain ⟨_, h⟩ := h))
  · have nd := sc_is_integer.nd
    refine ⟨_, PSs.nox ((pss_one (ps_ret (pe_and (pe_callB call_isi (by rfl) (n_isinstance S) (by decide +kernel) (pa_cons (pv 0) (pa_cons (pe_bltn (v := .ty "int") (by rfl) (n_int S) (by decide +kernel) rfl) pa_nil))) (pe_one (pe_not (pe_callB call_isi (by rfl) (n_isinstance S) (by decide +kernel) (pa_cons (pv 0) (pa_cons (pe_bltn (v := .ty "bool") (by rfl) (n_bool S) (by decide +kernel) rfl) pa_nil))))))))), ?_⟩
    try dsimp only [cxOf_K]
    obtain ⟨x, t, bi, bb, rfl, ty, k1, k2, k⟩ := h
    refine go_start (σ' := [_]) rfl ?_
    walk_at "go"
    refine go_isi (.ty "int") ty k1 ?_
    walk_at "go"
    cases bi with
    | true =>
      walk_at "go"
      refine go_isi (.ty "bool") ty k2 ?_
      walk_at "go"
      exact k
    | false =>
      walk_at "go"
      exact k
theorem cl_is_integer {P : Program} {w : World} {base : Heap} (S : HD sys K mg) : Cl P w K mg base CX0 1 "is_integer" (spIsInt K) := ⟨_, _, _, (fk_cl_is_integer S), g_is_integer S, (d_is_integer S).kp, b_is_integer S⟩
theorem odd_noint {H : Hp} {v : V} {n : String} (h : OddV H v n) (ni : ∀ i, v ≠ .int i) : NoInt K H v := by
  have ty := h.ty (K := K)
  cases h with
  | int i => exact absurd rfl (ni i)
  | non => exact ⟨_, false, false, ty, kit_ty (by decide +kernel), kit_ty (by decide +kernel), rfl⟩
  | bl b => exact ⟨_, true, true, ty, kit_ty (by decide +kernel), kit_ty (by decide +kernel), rfl⟩
  | str s => exact ⟨_, false, false, ty, kit_ty (by decide +kernel), kit_ty (by decide +kernel), rfl⟩
  | lst e => exact ⟨_, false, false, ty, kit_ty (by decide +kernel), kit_ty (by decide +kernel), rfl⟩
  | tup e => exact ⟨_, false, false, ty, kit_ty (by decide +kernel), kit_ty (by decide +kernel), rfl⟩
  | dK e => exact ⟨_, false, false, ty, kit_ty (by decide +kernel), kit_ty (by decide +kernel), rfl⟩
theorem odd_nostr {H : Hp} {v : V} {n : String} (h : OddV H v n) (ns : ∀ z, v ≠ .str z) : NoStr K H v := by
  have ty := h.ty (K := K)
  cases h with
  | str s => exact absurd rfl (ns s)
  | non => exact ⟨_, ty, kit_ty (by decide +kernel)⟩
  | bl b => exact ⟨_, ty, kit_ty (by decide +kernel)⟩
  | int i => exact ⟨_, ty, kit_ty (by decide +kernel)⟩
  | lst e => exact ⟨_, ty, kit_ty (by decide +kernel)⟩
  | tup e => exact ⟨_, ty, kit_ty (by decide +kernel)⟩
  | dK e => exact ⟨_, ty, kit_ty (by decide +kernel)⟩
/-! ### figures -/
/-- a number as str writes it -/
def okW (l : List Nat) : Prop := l ≠ [] ∧ NumText.AllDigits l ∧ (l = [48] ∨ l.head? ≠ some 48)
def valW (w : Str) : Int := ((NumText.digitsVal (TL.tl w) : Nat) : Int)
theorem atI_nat {α : Type} {n : Nat} {xs : List α} (h : n < xs.length) : atI xs (n : Int) = xs[n]? := by
  unfold atI ixN
  simp [h]
def spFigs : Sp := fun vs H Q _ => ∃ w : Str, vs = [.str w] ∧ w.length ≤ 1000000 ∧ ∀ b : Bool, (b = true ↔ okW (TL.tl w)) → Q (.bl b) H
theorem sign_zero {c : Nat} : decide ((⟨#[c]⟩ : Str) = "0") = decide (c = 48) := decide_eq_decide.mpr ⟨fun h => by
  have := congrArg (fun x : Str => x.cps.toList) h
  have e : ("0" : Str).cps.toList = [48] := by decide +kernel
  rw [e] at this
  simpa using this, fun h => by
  subst h
  decide +kernel⟩
theorem word_zero {w : Str} : (w = "0") ↔ TL.tl w = [48] := by
  have e : TL.tl "0" = [48] := by decide +kernel
  rw [← e]
  exact ⟨fun h => by rw [h], TL.ext_tl⟩
theorem fk_cl_is_figures {P : Program} {w : World} {base : Heap} (S : HD sys K mg) : FnOk P w K mg base CX0 1 (Pl.adr K (Pl.fn "is_figures")) (fdAt K (Pl.adr K (Pl.fn "is_figures"))) ["word"] (spFigs) := by
  refine (d_is_figures S).ok sc_is_figures (fun vs H Q E h => ?_) (fun cdv A outer s H vs Q E hr h => ?_)
  · repeat (first | (obtain ⟨rfl, _⟩ := h; rfl) | (obtain ⟨_, h⟩ := h))
  · have nd := sc_is_figures.nd
    refine ⟨_, PSs.nox ((pss_one (ps_ret (pe_and (pe_isascii (pv 0)) (pe_and (pe_isdigit (pv 0)) (pe_one (pe_or (pe_cmpR op_eq (pv 0) pe_str (nomark _)) (pe_one (pe_cmpR op_ne (pe_ix ix_str (pv 0) pe_int (fun _ _ => rfl)) pe_str (nomark _)))))))))), ?_⟩
    try dsimp only [cxOf_K]
    obtain ⟨w, rfl, hl, k⟩ := h
    have key := figs_iff w
    refine go_start (σ' := [_]) rfl ?_
    walk_at "gm"
    refine go_b (fun e1 => ?_) (fun e1 => ?_)
    · walk_at "gm"
      refine go_b (fun e2 => ?_) (fun e2 => ?_)
      · obtain ⟨n1, n2⟩ := key.mp (by rw [e1, e2]; rfl)
        obtain ⟨c, r, ec⟩ := List.exists_cons_of_ne_nil n1
        walk_at "gm"
        refine go_dec (fun z => ?_) (fun z => ?_)
        · refine k true ⟨fun _ => ⟨n1, n2, .inl ?_⟩, fun _ => rfl⟩
          exact word_zero.mp (by cases z; rfl)
        · walk_at "gm"
          refine ⟨w, 0, c, rfl, rfl, Nat.le_trans hl (by decide), ?_, ?_⟩
          · show atI (TL.tl w) 0 = some c
            rw [ec]
            exact atI_nat (n := 0) (xs := c :: r) (Nat.zero_lt_succ _)
          · walk_at "gm"
            refine bl_of (R := fun v => Q v H) (y := decide (c ≠ 48)) ?_ (k _ ?_)
            · refine (congrArg (fun b => !b) ?_).trans (by rw [decide_not])
              exact (decide_eq_decide.mpr ⟨fun h => by cases h; rfl, fun h => by rw [h]⟩).trans sign_zero
            · rw [decide_eq_true_iff, ec]
              refine ⟨fun h => ⟨by simp, ec ▸ n2, .inr (fun q => h (by cases q; rfl))⟩, fun h q => ?_⟩
              rcases h.2.2 with h | h
              · exact z (by rw [word_zero.mpr (ec.trans h)])
              · exact h (by rw [q]; rfl)
      · refine k false ⟨fun h => (by cases h), fun h => ?_⟩
        have := key.mpr ⟨h.1, h.2.1⟩
        rw [e1, e2] at this
        cases this
    · refine k false ⟨fun h => (by cases h), fun h => ?_⟩
      have := key.mpr ⟨h.1, h.2.1⟩
      rw [e1] at this
      cases this
theorem cl_is_figures {P : Program} {w : World} {base : Heap} (S : HD sys K mg) : Cl P w K mg base CX0 1 "is_figures" (spFigs) := ⟨_, _, _, (fk_cl_is_figures S), g_is_figures S, (d_is_figures S).kp, b_is_figures S⟩
/-! ### ratios, and their texts -/
def RtAt (C : Addr) (H : Hp) (a : Addr) (n d : Int) : Prop := ∃ dx, H a = some (.ins C dx [("top", .int n), ("bottom", .int d)])
/-- not great -/
def Nb (i : Int) : Prop := i.natAbs < 2 ^ 1000
theorem gc_pos' {t b : Int} (h : b ≠ 0) : 0 < gc t b := by
  have := Nat.gcd_pos_of_pos_right t.natAbs (show 0 < b.natAbs by omega)
  unfold gc
  omega
theorem gc_le' {t b : Int} (h : b ≠ 0) : gc t b ≤ b.natAbs := by
  have := Nat.gcd_le_right t.natAbs (show 0 < b.natAbs by omega)
  unfold gc
  omega
def spRtInit (C : Addr) : Sp := fun vs H Q _ => ∃ (p dx : Addr) (t b : Int), vs = [.ref p, .int t, .int b] ∧ H p = some (.ins C dx []) ∧ 0 < b ∧ Nb b ∧
  Q .non (upd H p (.ins C dx [("top", .int (t / gc t b)), ("bottom", .int (b / gc t b))]))
theorem fk_mke_Ratio___init__ {P : Program} {w : World} {base : Heap} (S : HD sys K mg) : FnOk P w K mg base CX0 2 (Pl.adr K (Pl.me "Ratio" "__init__")) (fdAt K (Pl.adr K (Pl.me "Ratio" "__init__"))) ["self", "top", "bottom"] (spRtInit (ga K "Ratio")) := by
  refine (d_Ratio___init__ S).ok sc_Ratio___init__ (fun vs H Q E h => ?_) (fun cdv A outer s H vs Q E hr h => ?_)
  · repeat (first | (obtain ⟨rfl, _⟩ := h; rfl) | (obtain ⟨_, h⟩ := h))
  · have nd := sc_Ratio___init__.nd
    refine ⟨_, PSs.nox ((pss_cons (ps_if (pt_not (pt_val (pe_f (cl_is_integer S) hr (by decide) pass0 (pa_cons (pv 1) pa_nil)))) (pss_one ps_never) pss_nil)
    (pss_cons (ps_if (PW.pt (pw_or (pt_not (pt_val (pe_f (cl_is_integer S) hr (by decide) pass0 (pa_cons (pv 2) pa_nil)))) (pw_or1 (pt_cmpR op_eq (pv 2) pe_int (nomark _))))) (pss_one ps_never) pss_nil)
    (pss_cons (ps_set (i := 3) nd rfl (Or.inl rfl) (pe_callBfun cr_gcd (by rfl) (bf_gcd S) (pa_cons (pv 1) (pa_cons (pv 2) pa_nil))))
    (pss_cons (ps_if (pt_cmpR op_lt (pv 2) pe_int (nomark _)) (pss_one (ps_set (i := 3) nd rfl (Or.inl rfl) (pe_un un_neg (pv 3)))) pss_nil)
    (pss_cons (ps_fld (pv 0) (pe_op op_fdivV (pv 1) (pv 3)) rfl)
    (pss_one (ps_fld (pv 0) (pe_op op_fdivV (pv 2) (pv 3)) rfl)))))))), ?_⟩
    try dsimp only [cxOf_K]
    obtain ⟨p, dx, t, b, rfl, hp, hb, bb, k⟩ := h
    have cCRatio := C_Ratio S
    have naRatiotop := na_Ratio_top S
    have naRatiobottom := na_Ratio_bottom S
    have g0 := gc_pos' (t := t) (show b ≠ 0 by omega)
    have g1 := gc_le' (t := t) (show b ≠ 0 by omega)
    refine go_start (σ' := [_, _, _, none]) rfl ?_
    walk_at "gm"
    refine isInt_int ?_
    walk_at "gm"
    refine isInt_int ?_
    walk_at "gm"
    refine go_dec (fun z => by omega) (fun _ => ?_)
    walk_at "gm"
    refine go_dec (fun z => by omega) (fun z => ?_)
    have gB : Bt 1000 (gc t b) := Nat.lt_of_le_of_lt (by omega) bb
    walk_at "gm"
    refine go_i (Bt.divV (by omega) gB (by decide)) ?_
    walk_at "gm"
    refine go_i (Bt.divV (by omega) gB (by decide)) ?_
    walk_at "gm"
    rw [upd_upd]
    rw [Int.fdiv_eq_ediv_of_nonneg _ (by omega), Int.fdiv_eq_ediv_of_nonneg _ (by omega)]
    exact k
theorem mke_Ratio {P : Program} {w : World} {base : Heap} (S : HD sys K mg) : Mke P w K mg base CX0 2 "Ratio" (spRtInit (ga K "Ratio")) := ⟨_, _, _, (fk_mke_Ratio___init__ S), mk_Ratio S, g_Ratio S, b_Ratio___init__ S⟩
theorem rt_make {C : Addr} {H : Hp} {Q : VK} {E : XK} {t b : Int} (hb : 0 < b) (w : Nb b) (k : ∀ x H', H x = none → Same H H' → RtAt C H' x (t / gc t b) (b / gc t b) → Q (.ref x) H') : rMake C (spRtInit C) E [.int t, .int b] H Q := by
  intro x dx nx nd ne
  refine ⟨x, dx, t, b, rfl, upd_same, hb, w, rfl, ?_⟩
  refine k x _ nx (fun a o h => ?_) ⟨dx, upd_same⟩
  rw [upd_ne (ne_of_none h nx), upd_ne (ne_of_none h nx), upd_ne (ne_of_none h nd)]
  exact h
def spRtEq (C : Addr) : Sp := fun vs H Q _ => ∃ (a c : Addr) (n1 d1 n2 d2 : Int), vs = [.ref a, .ref c] ∧ RtAt C H a n1 d1 ∧ RtAt C H c n2 d2 ∧ Q (.bl (decide (n1 = n2 ∧ d1 = d2))) H
theorem fk_op_Ratio___eq__ {P : Program} {w : World} {base : Heap} (S : HD sys K mg) : FnOk P w K mg base CX0 2 (Pl.adr K (Pl.me "Ratio" "__eq__")) (fdAt K (Pl.adr K (Pl.me "Ratio" "__eq__"))) ["self", "other"] (spRtEq (ga K "Ratio")) := by
  refine (d_Ratio___eq__ S).ok sc_Ratio___eq__ (fun vs H Q E h => ?_) (fun cdv A outer s H vs Q E hr h => ?_)
  · repeat (first | (obtain ⟨rfl, _⟩ := h; rfl) | (obtain ⟨_, h⟩ := h))
  · have nd := sc_Ratio___eq__.nd
    refine ⟨_, PSs.nox ((pss_cons (ps_if (pt_val (pe_callB call_isi (by rfl) (n_isinstance S) (by decide +kernel) (pa_cons (pv 1) (pa_cons (pe_glob (v := .ref (ga K "Ratio")) rfl (g_Ratio S) rfl) pa_nil)))) (pss_one (ps_ret (pe_and (pe_cmpR op_eq (pe_fld (pv 0) rfl) (pe_fld (pv 1) rfl) (nomark _)) (pe_one (pe_cmpR op_eq (pe_fld (pv 0) rfl) (pe_fld (pv 1) rfl) (nomark _)))))) pss_nil)
    (pss_one (ps_ret (pe_and (pe_f (cl_is_integer S) hr (by decide) pass0 (pa_cons (pv 1) pa_nil)) (pe_and (pe_cmpR op_eq (pe_fld (pv 0) rfl) pe_int (nomark _)) (pe_one (pe_cmpR op_eq (pe_fld (pv 0) rfl) (pv 1) (nomark _))))))))), ?_⟩
    try dsimp only [cxOf_K]
    obtain ⟨a, c, n1, d1, n2, d2, rfl, ⟨dx, ha⟩, ⟨dy, hc⟩, k⟩ := h
    have cCRatio := C_Ratio S
    have naRatiotop := na_Ratio_top S
    have naRatiobottom := na_Ratio_bottom S
    refine go_start (σ' := [_, _]) rfl ?_
    walk_at "gm"
    refine go_isi (.own _) (tyIns (in_Ratio S) hc) (kit_o_Ratio__o_Ratio__true S) ?_
    walk_at "gm"
    refine go_dec (fun z => ?_) (fun z => ?_)
    · cases z
      walk_at "gm"
      refine bl_of (R := fun v => Q v H) ?_ k
      simp
    · walk_at "gm"
      refine bl_of (R := fun v => Q v H) ?_ k
      simp_all
theorem op_Ratio___eq__ {P : Program} {w : World} {base : Heap} (S : HD sys K mg) : Op P w K mg base CX0 2 (ga K "Ratio") "__eq__" (spRtEq (ga K "Ratio")) := ⟨_, _, _, (fk_op_Ratio___eq__ S), (opf_Ratio___eq__ S).1, (opf_Ratio___eq__ S).2, b_Ratio___eq__ S⟩
/-- the text of a ratio -/
def rtS (n d : Int) : Str := ⟨(Rx.rtL n d).toArray⟩
theorem small_log {i : Int} {b : Nat} (h : i.natAbs < 2 ^ b) (hb : b ≤ 1920) (b0 : 0 < b) : i.natAbs.log2 < 1920 := by
  by_cases z : i.natAbs = 0
  · rw [z]
    decide
  · exact Nat.lt_of_lt_of_le ((Nat.log2_lt z).mpr h) hb
def spRtStr (C : Addr) : Sp := fun vs H Q _ => ∃ (a : Addr) (n d : Int), vs = [.ref a] ∧ RtAt C H a n d ∧ n.natAbs < 10 ^ 4300 ∧ (d ≠ 1 → n.natAbs < 2 ^ 1000 ∧ d.natAbs < 2 ^ 1000) ∧ Q (.str (rtS n d)) H
theorem fk_op_Ratio___str__ {P : Program} {w : World} {base : Heap} (S : HD sys K mg) : FnOk P w K mg base CX0 1 (Pl.adr K (Pl.me "Ratio" "__str__")) (fdAt K (Pl.adr K (Pl.me "Ratio" "__str__"))) ["self"] (spRtStr (ga K "Ratio")) := by
  refine (d_Ratio___str__ S).ok sc_Ratio___str__ (fun vs H Q E h => ?_) (fun cdv A outer s H vs Q E hr h => ?_)
  · repeat (first | (obtain ⟨rfl, _⟩ := h; rfl) | (obtain ⟨_, h⟩ := h))
  · have nd := sc_Ratio___str__.nd
    refine ⟨_, PSs.nox ((pss_cons (ps_if (pt_cmpR op_eq (pe_fld (pv 0) rfl) pe_int (nomark _)) (pss_one (ps_ret (pe_callTy (call_strW (nodig S) rfl) (by rfl) (n_str S) (by decide +kernel) (pa_cons (pe_fld (pv 0) rfl) pa_nil)))) pss_nil)
    (pss_one (ps_ret (pe_joined (.cons (pe_fmt (pe_fld (pv 0) rfl)) (.cons pe_str (.cons (pe_fmt (pe_fld (pv 0) rfl)) .nil)))))))), ?_⟩
    try dsimp only [cxOf_K]
    obtain ⟨a, n, d, rfl, ⟨dx, ha⟩, big, sm, k⟩ := h
    have cCRatio := C_Ratio S
    have naRatiotop := na_Ratio_top S
    have naRatiobottom := na_Ratio_bottom S
    refine go_start (σ' := [_]) rfl ?_
    walk_at "gm"
    refine go_dec (fun z => ?_) (fun z => ?_)
    · walk_at "gm"
      refine go_strW big ?_
      have e : rtS n d = (toString n : Str) := TL.ext_tl (by
        rw [Rx.tl_str]
        show Rx.rtL n d = _
        unfold Rx.rtL
        rw [if_pos z])
      rw [e] at k
      exact k
    · obtain ⟨s1, s2⟩ := sm z
      have g1 := small_log s1 (by decide) (by decide)
      have g2 := small_log s2 (by decide) (by decide)
      have l1 : (Str.ofString (toString n)).length ≤ 1921 := PyProof.Rows.int_text_len_1921 g1
      have l2 : (Str.ofString (toString d)).length ≤ 1921 := PyProof.Rows.int_text_len_1921 g2
      have e : rtS n d = ((Str.empty ++ (toString n : Str)) ++ "/") ++ (toString d : Str) := TL.ext_tl (by
        rw [TL.tl_append, TL.tl_append, TL.tl_append, Rx.tl_str, Rx.tl_str]
        show Rx.rtL n d = _
        unfold Rx.rtL
        rw [if_neg z, show TL.tl "/" = [47] by decide +kernel, show TL.tl Str.empty = [] from rfl, List.nil_append, List.append_assoc]
        rfl)
      rw [e] at k
      walk_at "gm"
      refine fmt_int g1 ?_
      refine go_jsx (by show 0 + _ ≤ _; omega) ?_
      walk_at "gm"
      refine go_jsx (by rw [PySem.Str.length_append]; show 0 + _ + 1 ≤ _; omega) ?_
      walk_at "gm"
      refine fmt_int g2 ?_
      refine go_jsx (by rw [PySem.Str.length_append, PySem.Str.length_append]; show 0 + _ + 1 + _ ≤ _; omega) ?_
      walk_at "gm"
      exact k
theorem op_Ratio___str__ {P : Program} {w : World} {base : Heap} (S : HD sys K mg) : Op P w K mg base CX0 1 (ga K "Ratio") "__str__" (spRtStr (ga K "Ratio")) := ⟨_, _, _, (fk_op_Ratio___str__ S), (opf_Ratio___str__ S).1, (opf_Ratio___str__ S).2, b_Ratio___str__ S⟩
/-! ### a text is read -/
theorem fk_ex_BadText___init__ {P : Program} {w : World} {base : Heap} (S : HD sys K mg) : FnOk P w K mg base CX0 1 (Pl.adr K (Pl.me "BadText" "__init__")) (fdAt K (Pl.adr K (Pl.me "BadText" "__init__"))) ["self", "line", "word"] (spEx2 (ga K "BadText") "line" "word") := by
  refine (d_BadText___init__ S).ok sc_BadText___init__ (fun vs H Q E h => ?_) (fun cdv A outer s H vs Q E hr h => ?_)
  · repeat (first | (obtain ⟨rfl, _⟩ := h; rfl) | (obtain ⟨_, h⟩ := h))
  · have nd := sc_BadText___init__.nd
    refine ⟨_, PSs.nox ((pss_cons (ps_ost (pv 0) (pv 1))
    (pss_one (ps_ost (pv 0) (pv 2))))), ?_⟩
    try dsimp only [cxOf_K]
    obtain ⟨a, v, w, rfl, ha, k⟩ := h
    refine go_start (σ' := [_, _, _]) rfl ?_
    walk_at "go"
    refine go_ost1 (exo_BadText S).oex (na_BadText_line S) ha fun dx n ne => ?_
    walk_at "go"
    refine go_ost2 (exo_BadText S).oex (na_BadText_word S) ne ?_
    walk_at "go"
    exact k dx n ne
theorem ex_BadText {P : Program} {w : World} {base : Heap} (S : HD sys K mg) : Ex P w K mg base 1 "BadText" (spEx2 (ga K "BadText") "line" "word") := ⟨_, _, (fk_ex_BadText___init__ S), exo_BadText S, g_BadText S, b_BadText___init__ S⟩
theorem er2_sm {x f g : Str} {v w : V} {H H1 : Hp} {E : XK} (s : Same H H1) (h : Er2 K x f g v w H E) : Er2 K x f g v w H1 E := fun d H' n s' hd => h d H' (no_sm s n) (s.trans s') hd
abbrev ErT (K : PySem.W.Frag) (H : Hp) (E : XK) : Prop := Er2 K "BadText" "line" "word" (.int 0) (.int 0) H E
def spText (K : PySem.W.Frag) : Sp := fun vs H Q E => ∃ v : V, vs = [v] ∧ ((∃ z : Str, v = .str z ∧ Q .non H) ∨ (NoStr K H v ∧ ErT K H E))
theorem fk_cl_check_text {P : Program} {w : World} {base : Heap} (S : HD sys K mg) : FnOk P w K mg base (L2.CX P w) 3 (Pl.adr K (Pl.fn "check_text")) (fdAt K (Pl.adr K (Pl.fn "check_text"))) ["text"] (spText K) := by
  refine (d_check_text S).ok sc_check_text (fun vs H Q E h => ?_) (fun cdv A outer s H vs Q E hr h => ?_)
  · repeat (first | (obtain ⟨rfl, _⟩ := h; rfl) | (obtain ⟨_, h⟩ := h))
  · have nd := sc_check_text.nd
    refine ⟨_, ((pss_one (ps_if (pt_not (pt_val (pe_callB call_isi (by rfl) (n_isinstance S) (by decide +kernel) (pa_cons (pv 0) (pa_cons (pe_bltn (v := .ty "str") (by rfl) (n_str S) (by decide +kernel) rfl) pa_nil))))) (pss_one (ps_raise rfl (takes_of rfl rfl rfl rfl) (pmk_ex (ex_BadText S) hr (by decide) (pa_cons pe_int (pa_cons pe_int pa_nil))))) pss_nil))), ?_⟩
    try dsimp only [cxOf_K]
    obtain ⟨v, rfl, ⟨z, rfl, k⟩ | ⟨⟨t, ty, kt⟩, k⟩⟩ := h
    · refine go_start (σ' := [_]) rfl ?_
      walk_at "gm"
      refine go_isi (b := true) (.ty "str") (.base (.str z)) (kit_ty (by decide +kernel)) ?_
      walk_at "gm"
      exact k
    · refine go_start (σ' := [_]) rfl ?_
      walk_at "gm"
      refine go_isi (.ty "str") ty kt ?_
      walk_at "gm"
      exact go_ex2 k.at
theorem cl_check_text {P : Program} {w : World} {base : Heap} (S : HD sys K mg) : Cl P w K mg base (L2.CX P w) 3 "check_text" (spText K) := ⟨_, _, _, (fk_cl_check_text S), g_check_text S, (d_check_text S).kp, b_check_text S⟩
def readB (w : Str) : Bool := decide (w.length ≤ 4000) && Rx.okB (TL.tl w)
theorem readB_iff {w : Str} : readB w = true ↔ w.length ≤ 4000 ∧ Rx.okW (TL.tl w) := by
  unfold readB
  rw [Bool.and_eq_true, decide_eq_true_iff, Rx.okB_iff]
def spReadable : Sp := fun vs H Q _ => ∃ w : Str, vs = [.str w] ∧ w.length ≤ 1000000 ∧ Q (.bl (readB w)) H
theorem fk_cl_is_readable {P : Program} {w : World} {base : Heap} (S : HD sys K mg) : FnOk P w K mg base CX0 2 (Pl.adr K (Pl.fn "is_readable")) (fdAt K (Pl.adr K (Pl.fn "is_readable"))) ["word"] (spReadable) := by
  refine (d_is_readable S).ok sc_is_readable (fun vs H Q E h => ?_) (fun cdv A outer s H vs Q E hr h => ?_)
  · repeat (first | (obtain ⟨rfl, _⟩ := h; rfl) | (obtain ⟨_, h⟩ := h))
  · have nd := sc_is_readable.nd
    refine ⟨_, PSs.nox ((pss_one (ps_ret (pe_and (pe_cmpR op_le (pe_callB call_len_str (by rfl) (n_len S) (by decide +kernel) (pa_cons (pv 0) pa_nil)) (pe_glob (v := .int 4000) rfl (i_MOST_FIGURES S).choose_spec ⟨_, rfl⟩) (nomark _)) (pe_one (pe_f (cl_is_figures S) hr (by decide) pass0 (pa_cons (pv 0) pa_nil))))))), ?_⟩
    try dsimp only [cxOf_K]
    obtain ⟨w, rfl, hl, k⟩ := h
    have fin : ∀ b : Bool, (b = true ↔ w.length ≤ 4000 ∧ Rx.okW (TL.tl w)) → Q (.bl b) H := fun b hb => by
      rw [show b = readB w from Bool.eq_iff_iff.mpr (hb.trans readB_iff.symm)]
      exact k
    refine go_start (σ' := [_]) rfl ?_
    walk_at "gm"
    refine ⟨w, rfl, Nat.le_trans hl (by decide), ?_⟩
    walk_at "gm"
    refine go_dec (fun z => ?_) (fun z => ?_)
    · walk_at "gm"
      exact ⟨w, rfl, hl, fun b hb => fin b (hb.trans ⟨fun h => ⟨by omega, h⟩, fun h => h.2⟩)⟩
    · walk_at "gm"
      exact fin false ⟨fun h => (by cases h), fun h => absurd h.1 (by omega)⟩
theorem cl_is_readable {P : Program} {w : World} {base : Heap} (S : HD sys K mg) : Cl P w K mg base CX0 2 "is_readable" (spReadable) := ⟨_, _, _, (fk_cl_is_readable S), g_is_readable S, (d_is_readable S).kp, b_is_readable S⟩
/-! ### a text and its pieces -/
theorem tl_mk' (l : List Nat) : TL.tl (⟨l.toArray⟩ : Str) = l := rfl
theorem split_slash (z : Str) : (Txt.split z "/").map TL.tl = TL.spl [47] 0 [] (TL.tl z) := by
  have e : TL.tl "/" = [47] := by decide +kernel
  have h := TL.split_spl z "/" (by rw [e]; simp) (TL.kind_ok (by decide +kernel))
  rwa [e] at h
theorem spl_one {l : List Nat} (h : 47 ∉ l) : TL.spl [47] 0 [] l = [l] := TL.spl_last1 h
theorem spl_two {a b : List Nat} (h : 47 ∉ a) : TL.spl [47] 0 [] (a ++ 47 :: b) = a :: TL.spl [47] 0 [] b := TL.spl_part1 (S := []) h
theorem spl_ne (l : List Nat) : TL.spl [47] 0 [] l ≠ [] := by
  by_cases h : 47 ∈ l
  · obtain ⟨a, b, rfl, h'⟩ := List.eq_append_cons_of_mem h
    rw [spl_two h']
    simp
  · rw [spl_one h]
    simp
/-- the text behind a minus -/
theorem minus_at (z : Str) : PySem.Builtin.Str.subAt z "-" 0 = Rx.neg (TL.tl z) ∧ (TL.tl z = [] → PySem.Builtin.Str.subAt z "-" 0 = false) := by
  have e : ("-" : Str).cps.toList = [45] := by decide +kernel
  have l : ("-" : Str).length = 1 := by decide +kernel
  rw [PySem.StrLaws.subAt_eq, e, l, List.drop_zero]
  show ((TL.tl z).take 1 == [45]) = _ ∧ (_ → ((TL.tl z).take 1 == [45]) = _)
  unfold Rx.neg
  cases TL.tl z with
  | nil => exact ⟨rfl, fun _ => rfl⟩
  | cons c r =>
    refine ⟨?_, fun h => by cases h⟩
    show ([c] == [45]) = decide (some c = some 45)
    by_cases h : c = 45
    · subst h
      rfl
    · rw [decide_eq_false (fun q => h (Option.some.inj q))]
      exact beq_false_of_ne fun q => h (List.cons.inj q).1
theorem nopre_tl (z : Str) : TL.tl (Txt.removeprefix z "-") = Rx.bare (TL.tl z) := by
  have l : ("-" : Str).length = 1 := by decide +kernel
  obtain ⟨m1, m2⟩ := minus_at z
  unfold Txt.removeprefix
  rw [m1, l]
  cases q : Rx.neg (TL.tl z) with
  | false =>
    rw [if_neg Bool.false_ne_true]
    unfold Rx.bare
    rw [if_neg (of_decide_eq_false q)]
    rfl
  | true =>
    rw [if_pos rfl]
    have ne : z.length ≠ 0 := fun h => by
      rw [TL.len_tl] at h
      rw [m2 (List.length_eq_zero_iff.mp h)] at m1
      rw [q] at m1
      cases m1
    show TL.tl (if (z.length - 1 == z.length) = true then z else _) = _
    rw [if_neg (by rw [beq_iff_eq]; omega), TL.tl_strSub_end]
    unfold Rx.bare
    rw [if_pos (of_decide_eq_true q), List.drop_one]
theorem starts_tl (z : Str) : Txt.startswith z "-" = Rx.neg (TL.tl z) := by
  have l : ("-" : Str).length = 1 := by decide +kernel
  obtain ⟨m1, m2⟩ := minus_at z
  unfold Txt.startswith
  rw [m1, l]
  by_cases h : TL.tl z = []
  · rw [h]
    exact Bool.and_false _
  · have : 1 ≤ z.length := by
      rw [TL.len_tl]
      exact List.length_pos_iff.mpr h
    rw [decide_eq_true (by omega), Bool.true_and]
/-- what a text of a ratio is -/
def IsT (z : Str) : Prop := Rx.One (TL.tl z) ∨ ∃ a b, TL.tl z = a ++ 47 :: b ∧ 47 ∉ a ∧ Rx.Two a b
def AOk (w : Str) : Prop := ∀ c ∈ TL.tl w, c < 1114112
theorem ok_str {w : Str} (h : AOk w) : PyData.strOk w = true := by
  unfold PyData.strOk
  rw [← Array.all_toList, List.all_eq_true]
  exact fun c hc => decide_eq_true (h c hc)
def GoodR (K : PySem.W.Frag) (H : Hp) (x : Addr) (z : Str) : Prop := ∃ n d, RtAt (ga K "Ratio") H x n d ∧ rtS n d = z ∧ n.natAbs < 10 ^ 4300 ∧ (d ≠ 1 → n.natAbs < 2 ^ 1000 ∧ d.natAbs < 2 ^ 1000)
def spRead (K : PySem.W.Frag) : Sp := fun vs H Q E => ∃ v : V, vs = [.ref (ga K "Ratio"), v] ∧
  ((∃ z : Str, v = .str z ∧ AOk z ∧ (z.length ≤ 300 ∨ (47 ∉ TL.tl z ∧ z.length ≤ 4000)) ∧ (IsT z → ∀ x H', H x = none → Same H H' → GoodR K H' x z → Q (.ref x) H') ∧ (¬ IsT z → ∀ H', Same H H' → ErT K H' E)) ∨
   (NoStr K H v ∧ ErT K H E))
theorem dpStrs {H : Hp} : ∀ ws : List Str, DpAll K H (ws.map V.str) (ws.map PyData.str)
  | [] => .nil
  | w :: ws => .cons (.str w) (dpStrs ws)
theorem shStrs {ws : List Str} (h : ∀ w ∈ ws, PyData.strOk w = true) : SeqAt.shaped (.list (ws.map PyData.str)) = true := by
  have d : ∀ ws : List Str, PyData.depthAll (ws.map PyData.str) ≤ 1 := fun ws => by
    induction ws with
    | nil => decide
    | cons w ws ih =>
      rw [List.map_cons, PyData.depthAll]
      have e : (PyData.str w).depth ≤ 1 := by rw [PyData.depth]; omega
      omega
  have c : ∀ ws : List Str, (∀ w ∈ ws, PyData.strOk w = true) → PyData.canLayAll0 (ws.map PyData.str) = true := fun ws => by
    induction ws with
    | nil => exact fun _ => rfl
    | cons w ws ih =>
      intro h
      rw [List.map_cons, PyData.canLayAll0, ih fun v hv => h v (List.mem_cons_of_mem _ hv), PyData.canLay0, h w List.mem_cons_self]
      rfl
  unfold SeqAt.shaped
  rw [PyData.canLay0, c ws h, PyData.depth]
  have := d ws
  simp
  omega
theorem fk_cm_Ratio_read {P : Program} {w : World} {base : Heap} (S : HD sys K mg) : FnOk P w K mg base (L2.CX P w) 4 (Pl.adr K (Pl.cm "Ratio" "read")) (fdAt K (Pl.adr K (Pl.cm "Ratio" "read"))) ["cls", "text"] (spRead K) := by
  refine (d_Ratio_read S).ok sc_Ratio_read (fun vs H Q E h => ?_) (fun cdv A outer s H vs Q E hr h => ?_)
  · repeat (first | (obtain ⟨rfl, _⟩ := h; rfl) | (obtain ⟨_, h⟩ := h))
  · have nd := sc_Ratio_read.nd
    refine ⟨_, ((pss_cons (ps_expr (pe_f (cl_check_text S) hr (by decide) (passes_call (takes_of rfl rfl rfl rfl) (fun _ _ _ _ h => h)) (pa_cons (pv 1) pa_nil)))
    (pss_cons (ps_set (i := 2) nd rfl (Or.inl rfl) (pe_splitS (pe_nopreS (pv 1) pe_str) pe_str))
    (pss_cons (ps_if (PW.pt (pw_or (pt_cmpR op_gt (pe_callB call_len_seq (by rfl) (n_len S) (by decide +kernel) (pa_cons (pv 2) pa_nil)) pe_int (nomark _)) (pw_or (pt_not (pt_val (pe_callB (cr_all rfl) (by rfl) (n_all S) (by decide +kernel) (pa_cons (pe_lc (own := [("word", 6)]) (g := gName 6) rfl nd (pi_list (pv 2)) (blkOk_by (own := [("word", 6)]) (N := ["cls", "text", "figures", "top", "bottom", "ratio", "word"]) (sc := defScope s_Ratio_read) (by decide +kernel)) (fun _ _ _ _ _ => (pg_name (i := 6) nd rfl (Or.inl rfl))) (fun _ _ _ _ _ => pts_nil) (fun _ _ _ _ _ => (pe_f (cl_is_readable S) hr (by decide) pass0 (pa_cons (pv 6) pa_nil)))) pa_nil)))) (pw_or1 (pt_cmpR (op_eqD hr.units) (pe_slice sl_list (pv 2) (po_some pe_int) po_none) (pe_lst (pa_cons pe_str pa_nil)) (nomark _)))))) (pss_one (ps_raise rfl (takes_of rfl rfl rfl rfl) (pmk_ex (ex_BadText S) hr (by decide) (pa_cons pe_int (pa_cons pe_int pa_nil))))) pss_nil)
    (pss_cons (ps_set (i := 3) nd rfl (Or.inl rfl) (pe_callTy (call_intW (nodig S)) (by rfl) (n_int S) (by decide +kernel) (pa_cons (pe_ix ix_list (pv 2) pe_int (fun _ _ => rfl)) pa_nil)))
    (pss_cons (ps_set (i := 4) nd rfl (Or.inl rfl) (pe_ifExp (pt_cmpR op_eq (pe_callB call_len_seq (by rfl) (n_len S) (by decide +kernel) (pa_cons (pv 2) pa_nil)) pe_int (nomark _)) (pe_callTy (call_intW (nodig S)) (by rfl) (n_int S) (by decide +kernel) (pa_cons (pe_ix ix_list (pv 2) (pe_un un_neg pe_int) (fun _ _ => rfl)) pa_nil)) pe_int))
    (pss_cons (ps_set (i := 5) nd rfl (Or.inl rfl) (pe_mkeL (i := 0) (mke_Ratio S) hr (by decide) pass0 rfl (pa_cons (pe_ifExp (pt_val (pe_startsS (pv 1) pe_str)) (pe_un un_neg (pv 3)) (pv 3)) (pa_cons (pv 4) pa_nil))))
    (pss_cons (ps_if (pt_cmpR op_ne (pe_callTy (call_strO (op_Ratio___str__ S) hr (by decide) pass0) (by rfl) (n_str S) (by decide +kernel) (pa_cons (pv 5) pa_nil)) (pv 1) (nomark _)) (pss_one (ps_raise rfl (takes_of rfl rfl rfl rfl) (pmk_ex (ex_BadText S) hr (by decide) (pa_cons pe_int (pa_cons pe_int pa_nil))))) pss_nil)
    (pss_one (ps_ret (pv 5))))))))))), ?_⟩
    try dsimp only [cxOf_K]
    obtain ⟨v, rfl, ⟨z, rfl, ok, sz, kY, kN⟩ | ⟨hn, er⟩⟩ := h
    · have len : z.length ≤ 4000 := by omega
      have ns := nopre_tl z
      have ylen : (Txt.removeprefix z "-").length ≤ 4000 := by
        rw [TL.len_tl, ns]
        have := Rx.bare_len (TL.tl z)
        rw [← TL.len_tl] at this
        omega
      have no : ∀ {Z : List Nat}, TL.tl z = Z → ¬ (Rx.One Z) → ¬ (∃ a b, Z = a ++ 47 :: b ∧ 47 ∉ a ∧ Rx.Two a b) → ¬ IsT z := fun e h1 h2 h => by
        subst e
        exact h.elim h1 h2
      refine go_start (σ' := [_, _, none, none, none, none, none]) rfl ?_
      walk_at "gm"
      refine ⟨.str z, rfl, .inl ⟨z, rfl, ?_⟩⟩
      walk_at "gm"
      refine go_nopreS (by omega) ?_
      generalize Txt.removeprefix z "-" = y at ns ylen ⊢
      walk_at "gm"
      refine go_split (by decide +kernel) (by omega) fun p H1 np s1 hp => ?_
      have mws := split_slash y
      rw [ns] at mws
      generalize Txt.split y "/" = ws at mws hp ⊢
      by_cases h47 : 47 ∈ TL.tl z
      · obtain ⟨a, b, eZ, ha⟩ := List.eq_append_cons_of_mem h47
        rw [eZ, (Rx.bare_app a b).1, spl_two (fun h => ha (Rx.bare_sub a _ h))] at mws
        by_cases hb : 47 ∈ b
        · obtain ⟨c, d, eb, hc⟩ := List.eq_append_cons_of_mem hb
          rw [eb, spl_two hc] at mws
          have many : 3 ≤ ws.length := by
            have := congrArg List.length mws
            rw [List.length_map, List.length_cons, List.length_cons] at this
            have := List.length_pos_iff.mpr (spl_ne d)
            omega
          have bad : ¬ IsT z := no eZ (fun h => h.1 (by rw [← eZ]; exact h47)) fun ⟨a', b', e', ha', t⟩ => by
            have := (Rx.app_inj e' ha ha').2
            rw [← this] at t
            exact t.2.2.1.no (by omega) hb
          walk_at "gm"
          refine go_dec (fun _ => ?_) (fun q => absurd (show (2 : Int) < (ws.map V.str).length by rw [List.length_map]; omega) q)
          walk_at "gm"
          exact go_ex2 (kN bad _ s1).at
        · rw [spl_one hb] at mws
          obtain ⟨wa, wb, rfl, ea, eb⟩ : ∃ wa wb, ws = [wa, wb] ∧ TL.tl wa = Rx.bare a ∧ TL.tl wb = b := by
            cases ws with
            | nil => cases mws
            | cons wa r =>
              obtain ⟨ea, mr⟩ := List.cons.inj mws
              cases r with
              | nil => cases mr
              | cons wb r2 =>
                obtain ⟨eb, m2⟩ := List.cons.inj mr
                cases r2 with
                | nil => exact ⟨wa, wb, rfl, ea, eb⟩
                | cons _ _ => cases m2
          have la : wa.length ≤ 4000 := by
            rw [TL.len_tl, ea]
            have := Rx.bare_len a
            have z := congrArg List.length eZ
            rw [List.length_append, ← TL.len_tl] at z
            omega
          have lb : wb.length ≤ 4000 := by
            rw [TL.len_tl, eb]
            have z := congrArg List.length eZ
            rw [List.length_append, List.length_cons, ← TL.len_tl] at z
            omega
          walk_at "gm"
          refine go_dec (fun q => absurd (show (2 : Int) < 2 from q) (by decide)) (fun _ => ?_)
          walk_at "gm"
          refine lcList (xs := [V.str wa, V.str wb]) (fun v => match v with | .str w => .bl (readB w) | _ => .non) (Nat.le_of_ble_eq_true rfl) (.of hp) (fun _ => rfl) (fun x H' Q' hx s kk => ?_) (fun D H2 nD s2 hD => ?_)
          · obtain ⟨w, rfl, lw⟩ : ∃ w : Str, x = .str w ∧ w.length ≤ 4000 := by
              simp only [List.mem_cons, List.not_mem_nil, or_false] at hx
              rcases hx with rfl | rfl
              · exact ⟨wa, rfl, la⟩
              · exact ⟨wb, rfl, lb⟩
            dsimp only [List.map, wipe, List.set]
            walk_at "gm"
            exact ⟨w, rfl, by omega, kk H' (Same.refl _)⟩
          walk_at "gm"
          refine go_all (bs := [readB wa, readB wb]) (.of hD) ?_
          refine ⟨_, rfl, ?_⟩
          rw [show ([readB wa, readB wb].all id) = (readB wa && readB wb) by simp]
          have isT : IsT z ↔ Rx.Two a b := by
            refine ⟨fun h => ?_, fun h => .inr ⟨a, b, eZ, ha, h⟩⟩
            rcases h with h | ⟨a', b', e', ha', t⟩
            · exact absurd h47 h.1
            · obtain ⟨e1, e2⟩ := Rx.app_inj (eZ.symm.trans e') ha ha'
              rw [e1, e2]
              exact t
          cases q : (readB wa && readB wb) with
          | false =>
            have bad : ¬ IsT z := fun h => by
              have t := isT.mp h
              have q1 : readB wa = true := readB_iff.mpr ⟨la, by rw [ea]; exact t.1⟩
              have q2 : readB wb = true := readB_iff.mpr ⟨lb, by rw [eb]; exact t.2.2.1⟩
              rw [q1, q2] at q
              cases q
            walk_at "gm"
            exact go_ex2 (kN bad _ (s1.trans s2)).at
          | true =>
            obtain ⟨q1, q2⟩ := Bool.and_eq_true_iff.mp q
            have oa := (readB_iff.mp q1).2
            have ob := (readB_iff.mp q2).2
            walk_at "gm"
            rename_i u1 U1 nu1 su1 hu1 u2 U2 nu2 su2 hu2
            have aob : AOk wb := fun c hc => by
              have := ob.2.1 c hc
              omega
            refine ⟨.list [.str wb], .list [.str "0"], .lst (.of (su2 _ _ hu1)) (dpStrs [wb]), .lst (.of hu2) (dpStrs ["0"]), shStrs (ws := [wb]) (fun w hw => by rw [List.mem_singleton.mp hw]; exact ok_str aob), by decide +kernel, ?_⟩
            have ne0 : Rx.okW b := eb ▸ ob
            rw [show PyData.eqv (.list [.str wb]) (.list [.str "0"]) = decide (wb = "0") by simp only [PyData.eqv, PyData.eqvAll, Bool.and_true]; exact Bool.eq_iff_iff.mpr (by rw [beq_iff_eq, decide_eq_true_iff])]
            refine ⟨_, rfl, ?_⟩
            refine go_dec (fun e0 => ?_) (fun e0 => ?_)
            · walk_at "gm"
              refine go_ex2 (kN (fun h => ?_) _ (s1.trans (s2.trans (su1.trans su2)))).at
              have t := (isT.mp h).2.2.2.1
              rw [← eb, e0] at t
              exact absurd t (by decide +kernel)
            · walk_at "gm"
              refine go_intW oa.2.1 oa.1 (by omega) ?_
              walk_at "gm"
              refine go_dec (fun _ => ?_) (fun q => absurd rfl q)
              walk_at "gm"
              refine go_intW ob.2.1 ob.1 (by omega) ?_
              walk_at "gm"
              refine go_startsS ?_
              rw [starts_tl, eZ, (Rx.bare_app a b).2]
              have z300 : z.length ≤ 300 := by
                rcases sz with h | h
                · exact h
                · exact absurd h47 h.1
              have da : NumText.digitsVal (TL.tl wa) < 10 ^ 300 := by
                refine Nat.lt_of_lt_of_le (Rx.val_lt oa.2.1) (Nat.pow_le_pow_right (by decide) ?_)
                have := Rx.bare_len a
                have z := congrArg List.length eZ
                rw [List.length_append, ← TL.len_tl] at z
                rw [ea]
                omega
              have db : NumText.digitsVal (TL.tl wb) < 10 ^ 300 := by
                refine Nat.lt_of_lt_of_le (Rx.val_lt ob.2.1) (Nat.pow_le_pow_right (by decide) ?_)
                have z := congrArg List.length eZ
                rw [List.length_append, List.length_cons, ← TL.len_tl] at z
                rw [eb]
                omega
              have p1 : 10 ^ 300 < 2 ^ 1000 := by decide +kernel
              have p2 : 10 ^ 300 < 10 ^ 4300 := Nat.pow_lt_pow_right (by decide) (by decide)
              have pos0 : 0 < NumText.digitsVal (TL.tl wb) := Nat.pos_of_ne_zero fun h => e0 (TL.ext_tl (by
                rw [Rx.zero_okW ob h]
                decide +kernel))
              have pos : (0 : Int) < ((NumText.digitsVal (TL.tl wb) : Nat) : Int) := by omega
              have nb : Nb ((NumText.digitsVal (TL.tl wb) : Nat) : Int) := by
                unfold Nb
                rw [Int.natAbs_natCast]
                exact Nat.lt_trans db p1
              have gv : gc (Rx.val a) ((NumText.digitsVal (TL.tl wb) : Nat) : Int) = ((Nat.gcd (NumText.digitsVal (Rx.bare a)) (NumText.digitsVal b) : Nat) : Int) := by
                unfold gc
                rw [Rx.gcd_ab, Int.natAbs_natCast, eb]
              have va : (Rx.val a).natAbs < 10 ^ 300 := by
                rw [Rx.gcd_ab, ← ea]
                exact da
              have lo : ∀ g : Int, (Rx.val a / g).natAbs < 10 ^ 300 := fun g => Nat.lt_of_le_of_lt (Int.natAbs_ediv_le_natAbs _ _) va
              have lo2 : ∀ g : Int, (((NumText.digitsVal (TL.tl wb) : Nat) : Int) / g).natAbs < 10 ^ 300 := fun g => Nat.lt_of_le_of_lt (Int.natAbs_ediv_le_natAbs _ _) (by rw [Int.natAbs_natCast]; exact db)
              have big := fun g => Nat.lt_trans (lo g) p2
              have sml := fun g => And.intro (Nat.lt_trans (lo g) p1) (Nat.lt_trans (lo2 g) p1)
              have key : rtS (Rx.val a / gc (Rx.val a) ((NumText.digitsVal (TL.tl wb) : Nat) : Int)) (((NumText.digitsVal (TL.tl wb) : Nat) : Int) / gc (Rx.val a) ((NumText.digitsVal (TL.tl wb) : Nat) : Int)) = z ↔ IsT z := by
                rw [isT, ← Rx.two_iff ha (ea ▸ oa) (eb ▸ ob) (eb ▸ pos0), ← eZ, gv, eb]
                exact ⟨fun h => congrArg TL.tl h, fun h => TL.ext_tl h⟩
              cases qn : Rx.neg a with
              | false =>
                walk_at "gm"
                have e : ((NumText.digitsVal (TL.tl wa) : Nat) : Int) = Rx.val a := by
                  unfold Rx.val
                  rw [qn, if_neg Bool.false_ne_true, ea]
                rw [e]
                refine rt_make pos nb fun x H5 nx s5 hx => ?_
                obtain ⟨dx, hx'⟩ := id hx
                walk_at "gm"
                refine ⟨x, _, _, rfl, hx, big _, fun _ => sml _, ?_⟩
                walk_at "gm"
                have sA : Same H U2 := s1.trans (s2.trans (su1.trans su2))
                refine go_ndec (fun ne => ?_) (fun eq => ?_)
                · exact go_ex2 (kN (fun h => ne (congrArg V.str (key.mpr h))) _ (sA.trans s5)).at
                · walk_at "gm"
                  exact kY (key.mp (V.str.inj eq)) x H5 (no_sm sA nx) (sA.trans s5) ⟨_, _, hx, V.str.inj eq, big _, fun _ => sml _⟩
              | true =>
                walk_at "gm"
                have e : -((NumText.digitsVal (TL.tl wa) : Nat) : Int) = Rx.val a := by
                  unfold Rx.val
                  rw [qn, if_pos rfl, ea]
                rw [e]
                refine rt_make pos nb fun x H5 nx s5 hx => ?_
                obtain ⟨dx, hx'⟩ := id hx
                walk_at "gm"
                refine ⟨x, _, _, rfl, hx, big _, fun _ => sml _, ?_⟩
                walk_at "gm"
                have sA : Same H U2 := s1.trans (s2.trans (su1.trans su2))
                refine go_ndec (fun ne => ?_) (fun eq => ?_)
                · exact go_ex2 (kN (fun h => ne (congrArg V.str (key.mpr h))) _ (sA.trans s5)).at
                · walk_at "gm"
                  exact kY (key.mp (V.str.inj eq)) x H5 (no_sm sA nx) (sA.trans s5) ⟨_, _, hx, V.str.inj eq, big _, fun _ => sml _⟩
      · rw [spl_one (fun h => h47 (Rx.bare_sub _ _ h))] at mws
        obtain ⟨wa, rfl, ea⟩ : ∃ wa, ws = [wa] ∧ TL.tl wa = Rx.bare (TL.tl z) := by
          cases ws with
          | nil => cases mws
          | cons wa r =>
            obtain ⟨ea, mr⟩ := List.cons.inj mws
            cases r with
            | nil => exact ⟨wa, rfl, ea⟩
            | cons _ _ => cases mr
        have la : wa.length ≤ 4000 := by
          rw [TL.len_tl, ea]
          have := Rx.bare_len (TL.tl z)
          rw [← TL.len_tl] at this
          omega
        walk_at "gm"
        refine go_dec (fun q => absurd (show (2 : Int) < 1 from q) (by decide)) (fun _ => ?_)
        walk_at "gm"
        refine lcList (xs := [V.str wa]) (fun v => match v with | .str w => .bl (readB w) | _ => .non) (Nat.le_of_ble_eq_true rfl) (.of hp) (fun _ => rfl) (fun x H' Q' hx s kk => ?_) (fun D H2 nD s2 hD => ?_)
        · cases List.mem_singleton.mp hx
          dsimp only [List.map, wipe, List.set]
          walk_at "gm"
          exact ⟨wa, rfl, by omega, kk H' (Same.refl _)⟩
        walk_at "gm"
        refine go_all (bs := [readB wa]) (.of hD) ?_
        refine ⟨_, rfl, ?_⟩
        rw [show ([readB wa].all id) = readB wa by simp]
        have isT : IsT z ↔ Rx.One (TL.tl z) := by
          refine ⟨fun h => ?_, fun h => .inl h⟩
          rcases h with h | ⟨a', b', e', ha', t⟩
          · exact h
          · exact absurd (by rw [e']; exact List.mem_append_right _ List.mem_cons_self) h47
        cases q : readB wa with
        | false =>
          have bad : ¬ IsT z := fun h => by
            have t := isT.mp h
            have q1 : readB wa = true := readB_iff.mpr ⟨la, by rw [ea]; exact t.2.1⟩
            rw [q1] at q
            cases q
          walk_at "gm"
          exact go_ex2 (kN bad _ (s1.trans s2)).at
        | true =>
          have oa := (readB_iff.mp q).2
          walk_at "gm"
          rename_i u1 U1 nu1 su1 hu1 u2 U2 nu2 su2 hu2
          refine ⟨.list [], .list [.str "0"], .lst (.of (su2 _ _ hu1)) .nil, .lst (.of hu2) (dpStrs ["0"]), by decide +kernel, by decide +kernel, ?_⟩
          rw [show PyData.eqv (.list []) (.list [.str "0"]) = false by simp [PyData.eqv, PyData.eqvAll]]
          refine ⟨_, rfl, ?_⟩
          walk_at "gm"
          refine go_intW oa.2.1 oa.1 (by omega) ?_
          walk_at "gm"
          refine go_dec (fun q => absurd (show (1 : Int) = 2 from q) (by decide)) (fun _ => ?_)
          walk_at "gm"
          refine go_startsS ?_
          rw [starts_tl]
          have gc1 : gc (Rx.val (TL.tl z)) 1 = 1 := by
            unfold gc
            simp
          have big : (Rx.val (TL.tl z)).natAbs < 10 ^ 4300 := by
            rw [Rx.gcd_ab, ← ea]
            refine Nat.lt_of_lt_of_le (Rx.val_lt oa.2.1) (Nat.pow_le_pow_right (by decide) ?_)
            rw [← TL.len_tl]
            omega
          have key : rtS (Rx.val (TL.tl z)) 1 = z ↔ IsT z := by
            rw [isT, ← Rx.one_iff h47 (ea ▸ oa)]
            exact ⟨fun h => congrArg TL.tl h, fun h => TL.ext_tl h⟩
          cases qn : Rx.neg (TL.tl z) with
          | false =>
            walk_at "gm"
            have e : ((NumText.digitsVal (TL.tl wa) : Nat) : Int) = Rx.val (TL.tl z) := by
              unfold Rx.val
              rw [qn, if_neg Bool.false_ne_true, ea]
            rw [e]
            refine rt_make (b := 1) (by decide) (by unfold Nb; exact Nat.one_lt_two_pow (by decide)) fun x H5 nx s5 hx => ?_
            rw [gc1, Int.ediv_one, Int.ediv_one] at hx
            obtain ⟨dx, hx'⟩ := id hx
            walk_at "gm"
            refine ⟨x, _, _, rfl, hx, big, fun q => absurd rfl q, ?_⟩
            walk_at "gm"
            have sA : Same H U2 := s1.trans (s2.trans (su1.trans su2))
            refine go_ndec (fun ne => ?_) (fun eq => ?_)
            · exact go_ex2 (kN (fun h => ne (congrArg V.str (key.mpr h))) _ (sA.trans s5)).at
            · walk_at "gm"
              exact kY (key.mp (V.str.inj eq)) x H5 (no_sm sA nx) (sA.trans s5) ⟨_, _, hx, V.str.inj eq, big, fun q => absurd rfl q⟩
          | true =>
            walk_at "gm"
            have e : -((NumText.digitsVal (TL.tl wa) : Nat) : Int) = Rx.val (TL.tl z) := by
              unfold Rx.val
              rw [qn, if_pos rfl, ea]
            rw [e]
            refine rt_make (b := 1) (by decide) (by unfold Nb; exact Nat.one_lt_two_pow (by decide)) fun x H5 nx s5 hx => ?_
            rw [gc1, Int.ediv_one, Int.ediv_one] at hx
            obtain ⟨dx, hx'⟩ := id hx
            walk_at "gm"
            refine ⟨x, _, _, rfl, hx, big, fun q => absurd rfl q, ?_⟩
            walk_at "gm"
            have sA : Same H U2 := s1.trans (s2.trans (su1.trans su2))
            refine go_ndec (fun ne => ?_) (fun eq => ?_)
            · exact go_ex2 (kN (fun h => ne (congrArg V.str (key.mpr h))) _ (sA.trans s5)).at
            · walk_at "gm"
              exact kY (key.mp (V.str.inj eq)) x H5 (no_sm sA nx) (sA.trans s5) ⟨_, _, hx, V.str.inj eq, big, fun q => absurd rfl q⟩
    · refine go_start (σ' := [_, _, none, none, none, none, none]) rfl ?_
      walk_at "gm"
      exact ⟨v, rfl, .inr ⟨hn, er⟩⟩
theorem cm_Ratio_read {P : Program} {w : World} {base : Heap} (S : HD sys K mg) : Cm P w K mg base (L2.CX P w) 4 (ga K "Ratio") "read" (spRead K) := ⟨_, _, _, _, (fk_cm_Ratio_read S), cr_Ratio S, cme_Ratio_read S, b_Ratio_read S⟩
def kgf_cmk_Ratio_read_text {α : Type} (a c : List α) : List α := match a, c with | [s0], [k0] => [s0, k0] | _, _ => []
theorem cmk_Ratio_read_text {P : Program} {w : World} {base : Heap} (S : HD sys K mg) : CmK P w K mg base (L2.CX P w) 4 (ga K "Ratio") "read" (spRead K) ["text"] (fun vs zs => kgf_cmk_Ratio_read_text vs zs) := by
  have b := (d_Ratio_read S).kbindsP (ps := ["cls", "text"]) 1 ["text"] (fun {_} a c => kgf_cmk_Ratio_read_text a c) (fun r1 r3 => by
      rcases r1 with _ | ⟨a1, _ | ⟨_, _⟩⟩ <;> rcases r3 with _ | ⟨c0, _ | ⟨_, _⟩⟩ <;> first | exact .nil | skip
      exact .cons a1 (.cons c0 (.nil)))
    (fun kV doc pm an cdv ct us ws h1 h3 => match us, h1, ws, h3 with | [_], _, [_], _ => rfl)
  exact ⟨_, _, _, _, _, (fk_cm_Ratio_read S), cr_Ratio S, cme_Ratio_read S, b⟩
theorem fk_cl__law_pen {P : Program} {w : World} {base : Heap} (S : HD sys K mg) : FnOk P w K mg base CX0 1 (Pl.adr K (Pl.fn "_law_pen")) (fdAt K (Pl.adr K (Pl.fn "_law_pen"))) ["_law_script"] (spPn K) := by
  refine (d__law_pen S).ok sc__law_pen (fun vs H Q E h => ?_) (fun cdv A outer s H vs Q E hr h => ?_)
  · repeat (first | (obtain ⟨rfl, _⟩ := h; rfl) | (obtain ⟨_, h⟩ := h))
  · have nd := sc__law_pen.nd
    refine ⟨_, PSs.nox ((pss_one (ps_ret (pe_lst (pa_cons (pe_callTy call_list_of (by rfl) (n_list S) (by decide +kernel) (pa_cons (pe_slice sl_list (pv 0) po_none (po_some pe_int)) pa_nil)) (pa_cons pe_int (pa_cons pe_int pa_nil))))))), ?_⟩
    try dsimp only [cxOf_K]
    obtain ⟨a, ns, rfl, hS, k⟩ := h
    refine go_start (σ' := [_]) rfl ?_
    walk_at "go"
    intro l nl
    walk_at "go"
    intro c nc
    walk_at "go"
    intro p np
    have e : (cutV (ns.map V.int) none (some 63)) = (ns.take 63).map V.int := (cut_upto (ns.map V.int) 63).trans List.map_take.symm
    rw [e] at nc np ⊢
    refine k _ c _ ⟨ns.take 63, 0, 0, upd_same, upd_keep np upd_same, ?_, Int.le_refl _, Int.le_refl _, ne_of_none upd_same np⟩ ?_ ?_ ?_
    · rw [List.length_take]
      omega
    · exact ((Same.new nl).trans (Same.new nc)).trans (Same.new np)
    · exact ((Same.new nl).trans (Same.new nc)).free np
    · exact (Same.new nl).free nc
theorem cl__law_pen {P : Program} {w : World} {base : Heap} (S : HD sys K mg) : Cl P w K mg base CX0 1 "_law_pen" (spPn K) := ⟨_, _, _, (fk_cl__law_pen S), g__law_pen S, (d__law_pen S).kp, b__law_pen S⟩
theorem fk_cl__law_draw {P : Program} {w : World} {base : Heap} (S : HD sys K mg) : FnOk P w K mg base CX0 1 (Pl.adr K (Pl.fn "_law_draw")) (fdAt K (Pl.adr K (Pl.fn "_law_draw"))) ["_law_pen_here", "_law_many"] (spDr) := by
  refine (d__law_draw S).ok sc__law_draw (fun vs H Q E h => ?_) (fun cdv A outer s H vs Q E hr h => ?_)
  · repeat (first | (obtain ⟨rfl, _⟩ := h; rfl) | (obtain ⟨_, h⟩ := h))
  · have nd := sc__law_draw.nd
    refine ⟨_, PSs.nox ((pss_cons (ps_if (pt_cmpR op_gt (pe_ix ix_list (pv 0) pe_int (fun _ _ => rfl)) pe_int (nomark _)) (pss_cons (ps_set (i := 2) nd rfl (Or.inl rfl) (pe_op op_mod (pe_callTy call_int1 (by rfl) (n_int S) (by decide +kernel) (pa_cons (pe_ix ix_list (pv 0) pe_int (fun _ _ => rfl)) pa_nil)) (pv 1)))
    (pss_cons (ps_asg (pe_op op_fdivW (pe_callTy call_int1 (by rfl) (n_int S) (by decide +kernel) (pa_cons (pe_ix ix_list (pv 0) pe_int (fun _ _ => rfl)) pa_nil)) (pv 1)) (pg_sub (pv 0) pe_int set_list))
    (pss_one (ps_ret (pv 2))))) pss_nil)
    (pss_cons (ps_set (i := 3) nd rfl (Or.inl rfl) (pe_ix ix_list (pv 0) pe_int (fun _ _ => rfl)))
    (pss_cons (ps_asg (pe_op op_add (pv 3) pe_int) (pg_sub (pv 0) pe_int set_list))
    (pss_cons (ps_set (i := 4) nd rfl (Or.inl rfl) (pe_op op_add (pe_op op_mul pe_int (pv 3)) pe_int))
    (pss_cons (ps_if (pt_cmpR (op_neD hr.units) (pe_ix ix_list (pv 0) pe_int (fun _ _ => rfl)) (pe_lst pa_nil) (nomark _)) (pss_one (ps_set (i := 4) nd rfl (Or.inl rfl) (pe_ix ix_list (pe_ix ix_list (pv 0) pe_int (fun _ _ => rfl)) (pe_op op_mod (pe_callTy call_int1 (by rfl) (n_int S) (by decide +kernel) (pa_cons (pv 3) pa_nil)) (pe_callB call_len_seq (by rfl) (n_len S) (by decide +kernel) (pa_cons (pe_ix ix_list (pv 0) pe_int (fun _ _ => rfl)) pa_nil))) (fun _ _ => rfl)))) pss_nil)
    (pss_cons (ps_if (PW.pt (pw_and (pt_cmpR op_lt (pv 3) (pe_callB call_len_seq (by rfl) (n_len S) (by decide +kernel) (pa_cons (pe_ix ix_list (pv 0) pe_int (fun _ _ => rfl)) pa_nil)) (nomark _)) (pw_and1 (pt_cmpR op_ge (pe_callB call_abs (by rfl) (n_abs S) (by decide +kernel) (pa_cons (pv 4) pa_nil)) (pe_op op_pow pe_int pe_int) (nomark _))))) (pss_cons (ps_set (i := 5) nd rfl (Or.inl rfl) (pe_op op_add (pe_op op_mul pe_int (pe_op op_sub (pe_callB call_abs (by rfl) (n_abs S) (by decide +kernel) (pa_cons (pv 4) pa_nil)) (pe_op op_pow pe_int pe_int))) (pe_callTy call_int1 (by rfl) (n_int S) (by decide +kernel) (pa_cons (pe_cmpR op_lt (pv 4) pe_int (nomark _)) pa_nil))))
    (pss_cons (ps_asg (pe_op op_fdivW (pe_callTy call_int1 (by rfl) (n_int S) (by decide +kernel) (pa_cons (pv 5) pa_nil)) (pv 1)) (pg_sub (pv 0) pe_int set_list))
    (pss_one (ps_ret (pe_op op_mod (pe_callTy call_int1 (by rfl) (n_int S) (by decide +kernel) (pa_cons (pv 5) pa_nil)) (pv 1)))))) pss_nil)
    (pss_cons (ps_set (i := 6) nd rfl (Or.inl rfl) (pe_op op_mod (pe_callTy call_int1 (by rfl) (n_int S) (by decide +kernel) (pa_cons (pe_op op_pow (pe_op op_add (pe_op op_add (pe_op op_mod (pe_callTy call_int1 (by rfl) (n_int S) (by decide +kernel) (pa_cons (pv 4) pa_nil)) pe_int) (pe_op op_mul pe_int (pv 3))) pe_int) pe_int) pa_nil)) pe_int))
    (pss_cons (ps_set (i := 6) nd rfl (Or.inl rfl) (pe_op op_add (pe_op op_add (pe_op op_mul (pv 6) (pe_op op_add (pe_op op_mul pe_int (pv 3)) pe_int)) (pe_op op_mul (pe_op op_mul pe_int (pv 3)) (pv 3))) pe_int))
    (pss_one (ps_ret (pe_op op_mod (pe_callTy call_int1 (by rfl) (n_int S) (by decide +kernel) (pa_cons (pe_op op_fdiv (pe_op op_mod (pe_callTy call_int1 (by rfl) (n_int S) (by decide +kernel) (pa_cons (pe_op op_pow (pv 6) pe_int) pa_nil)) pe_int) pe_int) pa_nil)) (pv 1))))))))))))), ?_⟩
    try dsimp only [cxOf_K]
    obtain ⟨p, c, m, n, rfl, hm, hm2, ⟨ns, b, g, hp, hc, hn, b0, b1, cp⟩, hn2, k⟩ := h
    refine go_start (σ' := [_, _, none, none, none, none, none]) rfl ?_
    walk_at "go"
    refine go_dec (fun hg => ?_) (fun hg => ?_)
    · walk_at "go"
      refine k _ _ (Int.emod_nonneg _ (by omega)) (Int.emod_lt_of_pos _ hm) ⟨ns, b, g / m, upd_same, (upd_ne cp).trans hc, hn, b0, by omega, cp⟩ Kp.put
    · walk_at "go"
      intro q nq
      have hp1 : upd (upd H p (.lst [.ref c, .int (b + 1), .int g])) q (.lst []) p = some (.lst [.ref c, .int (b + 1), .int g]) := upd_keep nq upd_same
      have k1 : Kp p H (upd (upd H p (.lst [.ref c, .int (b + 1), .int g])) q (.lst [])) := Kp.put.trans (Kp.new nq)
      have hc1 := k1 _ _ hc cp
      have en : upd (upd H p (.lst [.ref c, .int (b + 1), .int g])) q (.lst []) q = some (.lst (([] : List Int).map V.int)) := upd_same
      refine go_neInts (SqL.of hc1) (SqL.of en) ?_
      generalize upd (upd H p (.lst [.ref c, .int (b + 1), .int g])) q (.lst []) = H1 at hp1 k1 hc1 ⊢
      walk_at "go"
      refine go_ndec (fun hns => ?_) (fun hns => ?_)
      · have hl : 0 < (ns.map V.int).length := by
          rw [List.length_map]
          exact List.length_pos_iff.mpr hns
        walk_at "go"
        obtain ⟨v, e, hv⟩ := atI_mod (xs := ns.map V.int) (Int.emod_nonneg b (by omega)) (Int.emod_lt_of_pos b (by omega))
        obtain ⟨z, hz, rfl⟩ := List.mem_map.mp hv
        refine go_ixl (SqL.of hc1) e ?_
        walk_at "go"
        refine go_dec (fun h1 => ?_) (fun h1 => ?_)
        · walk_at "go"
          refine go_dec (fun h2 => ?_) (fun h2 => ?_)
          · walk_at "go"
            refine k _ _ (Int.emod_nonneg _ (by omega)) (Int.emod_lt_of_pos _ hm) ⟨ns, b + 1, _, upd_same, (upd_ne cp).trans hc1, hn, by omega, by omega, cp⟩ (k1.trans Kp.put)
          · walk_at "go"
            refine go_i ⟨by decide, by decide, mixOk (Int.emod_nonneg _ (by decide)) (Int.lt_of_lt_of_le (Int.emod_lt_of_pos _ (by decide)) (by decide)) b0 (by omega) (by decide) (by decide) (by decide) (by decide) (by decide) (by decide)⟩ ?_
            walk_at "go"
            exact k _ _ (Int.emod_nonneg _ (by omega)) (Int.emod_lt_of_pos _ hm) ⟨ns, b + 1, g, hp1, hc1, hn, by omega, by omega, cp⟩ k1
        · walk_at "go"
          refine go_i ⟨by decide, by decide, mixOk (Int.emod_nonneg _ (by decide)) (Int.lt_of_lt_of_le (Int.emod_lt_of_pos _ (by decide)) (by decide)) b0 (by omega) (by decide) (by decide) (by decide) (by decide) (by decide) (by decide)⟩ ?_
          walk_at "go"
          exact k _ _ (Int.emod_nonneg _ (by omega)) (Int.emod_lt_of_pos _ hm) ⟨ns, b + 1, g, hp1, hc1, hn, by omega, by omega, cp⟩ k1
      · generalize 39119 * b + 823 = z
        walk_at "go"
        refine go_dec (fun h1 => ?_) (fun h1 => ?_)
        · walk_at "go"
          refine go_dec (fun h2 => ?_) (fun h2 => ?_)
          · walk_at "go"
            refine k _ _ (Int.emod_nonneg _ (by omega)) (Int.emod_lt_of_pos _ hm) ⟨ns, b + 1, _, upd_same, (upd_ne cp).trans hc1, hn, by omega, by omega, cp⟩ (k1.trans Kp.put)
          · walk_at "go"
            refine go_i ⟨by decide, by decide, mixOk (Int.emod_nonneg _ (by decide)) (Int.lt_of_lt_of_le (Int.emod_lt_of_pos _ (by decide)) (by decide)) b0 (by omega) (by decide) (by decide) (by decide) (by decide) (by decide) (by decide)⟩ ?_
            walk_at "go"
            exact k _ _ (Int.emod_nonneg _ (by omega)) (Int.emod_lt_of_pos _ hm) ⟨ns, b + 1, g, hp1, hc1, hn, by omega, by omega, cp⟩ k1
        · walk_at "go"
          refine go_i ⟨by decide, by decide, mixOk (Int.emod_nonneg _ (by decide)) (Int.lt_of_lt_of_le (Int.emod_lt_of_pos _ (by decide)) (by decide)) b0 (by omega) (by decide) (by decide) (by decide) (by decide) (by decide) (by decide)⟩ ?_
          walk_at "go"
          exact k _ _ (Int.emod_nonneg _ (by omega)) (Int.emod_lt_of_pos _ hm) ⟨ns, b + 1, g, hp1, hc1, hn, by omega, by omega, cp⟩ k1
theorem cl__law_draw {P : Program} {w : World} {base : Heap} (S : HD sys K mg) : Cl P w K mg base CX0 1 "_law_draw" (spDr) := ⟨_, _, _, (fk_cl__law_draw S), g__law_draw S, (d__law_draw S).kp, b__law_draw S⟩
theorem fk_cl__law_pick {P : Program} {w : World} {base : Heap} (S : HD sys K mg) : FnOk P w K mg base CX0 2 (Pl.adr K (Pl.fn "_law_pick")) (fdAt K (Pl.adr K (Pl.fn "_law_pick"))) ["_law_pen_here", "_law_some"] (spPk K) := by
  refine (d__law_pick S).ok sc__law_pick (fun vs H Q E h => ?_) (fun cdv A outer s H vs Q E hr h => ?_)
  · repeat (first | (obtain ⟨rfl, _⟩ := h; rfl) | (obtain ⟨_, h⟩ := h))
  · have nd := sc__law_pick.nd
    refine ⟨_, PSs.nox ((pss_one (ps_ret (pe_ix ix_seq (pv 1) (pe_f (cl__law_draw S) hr (by decide) pass0 (pa_cons (pv 0) (pa_cons (pe_callB call_len_seq (by rfl) (n_len S) (by decide +kernel) (pa_cons (pv 1) pa_nil)) pa_nil))) (fun _ _ => rfl))))), ?_⟩
    try dsimp only [cxOf_K]
    obtain ⟨p, c, a, xs, n, rfl, ha, hx, hl, ap, hP, hn, k⟩ := h
    refine go_start (σ' := [_, _]) rfl ?_
    walk_at "go"
    have hx' : 0 < xs.length := List.length_pos_iff.mpr hx
    refine ⟨p, c, xs.length, n, rfl, by omega, by omega, hP, hn, fun i H' h0 h1 hP' hk => ?_⟩
    obtain ⟨v, e, hv⟩ := atI_mod h0 h1
    have fin := k v H' hv hP' hk
    rcases ha with ha | ha
    · exact .inl ⟨a, xs, i, v, rfl, rfl, hk.seqL ha ap, e, fin⟩
    · exact .inr (.inl ⟨a, xs, i, v, rfl, rfl, hk.seqT ha ap, e, fin⟩)
theorem cl__law_pick {P : Program} {w : World} {base : Heap} (S : HD sys K mg) : Cl P w K mg base CX0 2 "_law_pick" (spPk K) := ⟨_, _, _, (fk_cl__law_pick S), g__law_pick S, (d__law_pick S).kp, b__law_pick S⟩
/-! ### numbers drawn -/
def spSize : Sp := fun vs H Q _ => ∃ (p c : Addr) (n : Nat), vs = [.ref p] ∧ Pn H p c n ∧ n < 900000 ∧
  ∀ i H', -100000000000000000000000000000000000000000 < i → i < 100000000000000000000000000000000000000000 → Pn H' p c (n + 5) → Kp p H H' → Q (.int i) H'
theorem fk_cl__law_size {P : Program} {w : World} {base : Heap} (S : HD sys K mg) : FnOk P w K mg base CX0 3 (Pl.adr K (Pl.fn "_law_size")) (fdAt K (Pl.adr K (Pl.fn "_law_size"))) ["_law_pen_here"] (spSize) := by
  refine (d__law_size S).ok sc__law_size (fun vs H Q E h => ?_) (fun cdv A outer s H vs Q E hr h => ?_)
  · repeat (first | (obtain ⟨rfl, _⟩ := h; rfl) | (obtain ⟨_, h⟩ := h))
  · have nd := sc__law_size.nd
    refine ⟨_, PSs.nox ((pss_cons (ps_set (i := 1) nd rfl (Or.inl rfl) (pe_f (cl__law_pick S) hr (by decide) pass0 (pa_cons (pv 0) (pa_cons (pe_lst (pa_cons pe_int (pa_cons pe_int (pa_cons pe_int (pa_cons (pe_op op_pow pe_int pe_int) (pa_cons (pe_op op_pow pe_int pe_int) pa_nil)))))) pa_nil))))
    (pss_cons (ps_set (i := 2) nd rfl (Or.inl rfl) (pe_f (cl__law_draw S) hr (by decide) pass0 (pa_cons (pv 0) (pa_cons (pv 1) pa_nil))))
    (pss_cons (ps_if (pt_cmpR op_eq (pe_f (cl__law_draw S) hr (by decide) pass0 (pa_cons (pv 0) (pa_cons pe_int pa_nil))) pe_int (nomark _)) (pss_one (ps_set (i := 2) nd rfl (Or.inl rfl) (pe_op op_add (pe_op op_mulW (pv 2) (pe_op op_pow pe_int pe_int)) (pe_f (cl__law_draw S) hr (by decide) pass0 (pa_cons (pv 0) (pa_cons (pe_op op_pow pe_int pe_int) pa_nil)))))) pss_nil)
    (pss_one (ps_ret (pe_ifExp (pt_cmpR op_eq (pe_f (cl__law_draw S) hr (by decide) pass0 (pa_cons (pv 0) (pa_cons pe_int pa_nil))) pe_int (nomark _)) (pv 2) (pe_op op_sub pe_int (pv 2))))))))), ?_⟩
    try dsimp only [cxOf_K]
    obtain ⟨p, c, n, rfl, hP, hn, k⟩ := h
    refine go_start (σ' := [_, none, none]) rfl ?_
    walk_at "gm"
    rename_i hv _ _
    obtain ⟨m, hm, rfl⟩ := List.mem_map.mp (show _ ∈ ([3, 10, 60, 1000000, 1000000000000000000] : List Int).map V.int from hv)
    have m' : 3 ≤ m ∧ m ≤ 1000000000000000000 := by
      simp only [List.mem_cons, List.not_mem_nil, or_false] at hm
      omega
    walk_at "gm"
    refine go_dec (fun z => ?_) (fun z => ?_)
    · walk_at "gm"
      refine go_dec (fun z => ?_) (fun z => ?_)
      · walk_at "gm"
        exact k _ _ (by omega) (by omega) (Pn.mono (by walk_at "pen") (by omega)) (by walk_at "kp")
      · walk_at "gm"
        exact k _ _ (by omega) (by omega) (Pn.mono (by walk_at "pen") (by omega)) (by walk_at "kp")
    · walk_at "gm"
      refine go_dec (fun z => ?_) (fun z => ?_)
      · walk_at "gm"
        exact k _ _ (by omega) (by omega) (Pn.mono (by walk_at "pen") (by omega)) (by walk_at "kp")
      · walk_at "gm"
        exact k _ _ (by omega) (by omega) (Pn.mono (by walk_at "pen") (by omega)) (by walk_at "kp")
theorem cl__law_size {P : Program} {w : World} {base : Heap} (S : HD sys K mg) : Cl P w K mg base CX0 3 "_law_size" (spSize) := ⟨_, _, _, (fk_cl__law_size S), g__law_size S, (d__law_size S).kp, b__law_size S⟩
/-- a drawn pair -/
def Pr0 (a b : Int) : Prop := (-1000000000000000000000000000000000000000000 < a ∧ a < 1000000000000000000000000000000000000000000) ∧ 0 < b ∧ b < 10000000000000
def spPairT : Sp := fun vs H Q _ => ∃ (p c : Addr) (n : Nat), vs = [.ref p] ∧ Pn H p c n ∧ n < 800000 ∧
  ∀ t a b H', H t = none → H' t = some (.tup [.int a, .int b]) → Pr0 a b → Pn H' p c (n + 8) → Kp p H H' → Q (.ref t) H'
theorem fk_cl__law_pair {P : Program} {w : World} {base : Heap} (S : HD sys K mg) : FnOk P w K mg base CX0 4 (Pl.adr K (Pl.fn "_law_pair")) (fdAt K (Pl.adr K (Pl.fn "_law_pair"))) ["_law_pen_here"] (spPairT) := by
  refine (d__law_pair S).ok sc__law_pair (fun vs H Q E h => ?_) (fun cdv A outer s H vs Q E hr h => ?_)
  · repeat (first | (obtain ⟨rfl, _⟩ := h; rfl) | (obtain ⟨_, h⟩ := h))
  · have nd := sc__law_pair.nd
    refine ⟨_, PSs.nox ((pss_cons (ps_set (i := 1) nd rfl (Or.inl rfl) (pe_op op_add pe_int (pe_f (cl__law_draw S) hr (by decide) pass0 (pa_cons (pv 0) (pa_cons (pe_f (cl__law_pick S) hr (by decide) pass0 (pa_cons (pv 0) (pa_cons (pe_lst (pa_cons pe_int (pa_cons pe_int (pa_cons pe_int (pa_cons (pe_op op_pow pe_int pe_int) pa_nil))))) pa_nil))) pa_nil)))))
    (pss_cons (ps_set (i := 2) nd rfl (Or.inl rfl) (pe_op op_add pe_int (pe_f (cl__law_draw S) hr (by decide) pass0 (pa_cons (pv 0) (pa_cons pe_int pa_nil)))))
    (pss_one (ps_ret (pe_tup (pa_cons (pe_op op_mulW (pe_f (cl__law_size S) hr (by decide) pass0 (pa_cons (pv 0) pa_nil)) (pv 2)) (pa_cons (pe_op op_mulW (pv 1) (pv 2)) pa_nil)))))))), ?_⟩
    try dsimp only [cxOf_K]
    obtain ⟨p, c, n, rfl, hP, hn, k⟩ := h
    refine go_start (σ' := [_, none, none]) rfl ?_
    walk_at "gm"
    rename_i hv _ _
    obtain ⟨m, rfl, m0, m1⟩ := mem_range 1 1000000000000 hv (by decide +kernel)
    walk_at "gm"
    refine ⟨p, c, _, rfl, by walk_at "pen", by omega, fun i H' i0 i1 hP' hK => ?_⟩
    rename_i f _ _ _ _ _ g _ _ _ _ _
    have mb := mulB (i := i) (j := 1 + g) (B := 100000000000000000000000000000000000000000) (c := 6) (by omega) (by omega) (by omega) (by omega)
    have mc := mulB (i := 1 + f) (j := 1 + g) (B := 1000000000000) (c := 6) (by omega) (by omega) (by omega) (by omega)
    have md : 0 < (1 + f) * (1 + g) := Int.mul_pos (by omega) (by omega)
    walk_at "gm"
    exact k _ _ _ _ (by walk_at "no") (by walk_at "hp") ⟨⟨by omega, by omega⟩, by omega, by omega⟩ (Pn.mono (by walk_at "pen") (by omega)) (by walk_at "kp")
theorem cl__law_pair {P : Program} {w : World} {base : Heap} (S : HD sys K mg) : Cl P w K mg base CX0 4 "_law_pair" (spPairT) := ⟨_, _, _, (fk_cl__law_pair S), g__law_pair S, (d__law_pair S).kp, b__law_pair S⟩
theorem gc_step {a b : Int} (h0 : 0 ≤ a) (h1 : 0 < b) : gc b (a % b) = gc a b := by
  obtain ⟨m, rfl⟩ := Int.eq_ofNat_of_zero_le h0
  obtain ⟨n, rfl⟩ := Int.eq_ofNat_of_zero_le (Int.le_of_lt h1)
  unfold gc
  have e : ((m : Int) % (n : Int)).natAbs = m % n := by omega
  rw [e, Int.natAbs_natCast, Int.natAbs_natCast, Nat.gcd_comm m n, Nat.gcd_rec n m, Nat.gcd_comm]
theorem gc_zero {a : Int} (h : 0 ≤ a) : gc a 0 = a := by
  unfold gc
  rw [Int.natAbs_zero, Nat.gcd_zero_right]
  omega
def spDivisor : Sp := fun vs H Q _ => ∃ a b : Int, vs = [.int a, .int b] ∧ 0 ≤ a ∧ 0 ≤ b ∧ b.natAbs < 2 ^ 1000 ∧ Q (.int (gc a b)) H
theorem fk_cl__law_divisor {P : Program} {w : World} {base : Heap} (S : HD sys K mg) : FnOk P w K mg base CX0 1 (Pl.adr K (Pl.fn "_law_divisor")) (fdAt K (Pl.adr K (Pl.fn "_law_divisor"))) ["_law_one", "_law_other"] (spDivisor) := by
  refine (d__law_divisor S).ok sc__law_divisor (fun vs H Q E h => ?_) (fun cdv A outer s H vs Q E hr h => ?_)
  · repeat (first | (obtain ⟨rfl, _⟩ := h; rfl) | (obtain ⟨_, h⟩ := h))
  · have nd := sc__law_divisor.nd
    refine ⟨_, PSs.nox ((pss_cons (ps_par (i := 2) (j := 3) (by rfl) nd rfl rfl (by decide) rfl rfl (pa_cons (pv 0) (pa_cons (pv 1) pa_nil)) (by rfl))
    (pss_cons (ps_while PassesOwn.never (pt_cmpR op_ne (pv 3) pe_int (nomark _))
      (pss_one (ps_par (i := 2) (j := 3) (by rfl) nd rfl rfl (by decide) rfl rfl (pa_cons (pv 3) (pa_cons (pe_op op_mod (pe_callTy call_int1 (by rfl) (n_int S) (by decide +kernel) (pa_cons (pv 2) pa_nil)) (pv 3)) pa_nil)) (by rfl))))
    (pss_one (ps_ret (pv 2)))))), ?_⟩
    try dsimp only [cxOf_K]
    obtain ⟨a, b, rfl, a0, b0, bs, k⟩ := h
    refine go_start (σ' := [_, _, none, none]) rfl ?_
    walk_at "gm"
    refine while_go (fun m σ' H' => H' = H ∧ ∃ x y : Int, 0 ≤ x ∧ 0 ≤ y ∧ y.natAbs < 2 ^ 1000 ∧ gc x y = gc a b ∧ m = y.toNat ∧ σ' = [some (.int a), some (.int b), some (.int x), some (.int y)]) _ ⟨rfl, _, _, a0, b0, bs, rfl, rfl, rfl⟩ ?_
    rintro m σ H' ⟨rfl, x, y, x0, y0, ys, e, rfl, rfl⟩
    walk_at "gm"
    refine go_ndec (fun z => ?_) (fun z => ?_)
    · have z' : y ≠ 0 := z
      refine while_step ?_
      have y1 := Int.emod_lt_of_pos x (show 0 < y by omega)
      have y2 := Int.emod_nonneg x z'
      walk_at "gm"
      exact ⟨_, by omega, rfl, y, x % y, y0, y2, by omega, (gc_step x0 (by omega)).trans e, rfl, rfl⟩
    · walk_at "gm"
      rw [z, gc_zero x0] at e
      rw [e]
      exact k
theorem cl__law_divisor {P : Program} {w : World} {base : Heap} (S : HD sys K mg) : Cl P w K mg base CX0 1 "_law_divisor" (spDivisor) := ⟨_, _, _, (fk_cl__law_divisor S), g__law_divisor S, (d__law_divisor S).kp, b__law_divisor S⟩
/-! ### the law's own look -/
def digL : List Nat := [48, 49, 50, 51, 52, 53, 54, 55, 56, 57]
theorem dig_in (c : Nat) : decide (c ∈ ("0123456789" : Str).cps.toList) = decide (48 ≤ c ∧ c ≤ 57) := by
  have e1 : ("0123456789" : Str).cps.toList = [48, 49, 50, 51, 52, 53, 54, 55, 56, 57] := by decide +kernel
  rw [e1]
  refine decide_eq_decide.mpr ?_
  simp only [List.mem_cons, List.not_mem_nil, or_false]
  omega
theorem go_neNil {H : Hp} {Q : VK} {a b : Addr} {l : List Nat} (ha : SqL K H a ((l.map fun x => (⟨#[x]⟩ : Str)).map V.str)) (hb : SqL K H b []) (lay : ∀ c ∈ l, c < 1114112) (k : Q (.bl (!decide (l = []))) H) : rNeD K (.ref a) (.ref b) H Q := by
  refine ⟨_, _, .lst ha (dpStrs _), .lst hb .nil, shStrs fun w hw => ?_, by decide +kernel, ?_⟩
  · obtain ⟨c, hc, rfl⟩ := List.mem_map.mp hw
    exact ok_str fun d hd => by
      cases List.mem_singleton.mp (show d ∈ [c] from hd)
      exact lay c hc
  · refine bl_of (R := fun v => Q v H) (congrArg (fun b => !b) ?_) k
    cases l with
    | nil => decide +kernel
    | cons c l =>
      rw [List.map_cons, List.map_cons]
      simp [PyData.eqv, PyData.eqvAll]
theorem tl_zero : TL.tl "0" = [48] := by decide +kernel
theorem is_empty {w : Str} : decide (V.str w = V.str "") = decide (TL.tl w = []) := decide_eq_decide.mpr ⟨fun h => by
  cases h
  decide +kernel, fun h => congrArg V.str (TL.ext_tl (h.trans (by decide +kernel)))⟩
theorem is_zero {w : Str} : decide (V.str w = V.str "0") = decide (TL.tl w = [48]) := decide_eq_decide.mpr ⟨fun h => by
  cases h
  decide +kernel, fun h => congrArg V.str (TL.ext_tl (h.trans tl_zero.symm))⟩
def spIsCnt : Sp := fun vs H Q _ => ∃ w : Str, vs = [.str w] ∧ w.length ≤ 1000 ∧ AOk w ∧ ∀ H', Same H H' → Q (.bl (Rx.okB (TL.tl w))) H'
theorem fk_cl__law_is_count {P : Program} {w : World} {base : Heap} (S : HD sys K mg) : FnOk P w K mg base CX0 1 (Pl.adr K (Pl.fn "_law_is_count")) (fdAt K (Pl.adr K (Pl.fn "_law_is_count"))) ["_law_word"] (spIsCnt) := by
  refine (d__law_is_count S).ok sc__law_is_count (fun vs H Q E h => ?_) (fun cdv A outer s H vs Q E hr h => ?_)
  · repeat (first | (obtain ⟨rfl, _⟩ := h; rfl) | (obtain ⟨_, h⟩ := h))
  · have nd := sc__law_is_count.nd
    refine ⟨_, PSs.nox ((pss_cons (ps_if (PW.pt (pw_or (pt_cmpR op_eq (pv 0) pe_str (nomark _)) (pw_or1 (pt_cmpR (op_neD hr.units) (pe_lc (own := [("_law_sign", 1)]) (g := gName 1) rfl nd (pi_str (pv 0)) (blkOk_by (own := [("_law_sign", 1)]) (N := ["_law_word", "_law_sign"]) (sc := defScope s__law_is_count) (by decide +kernel)) (fun _ _ _ _ _ => (pg_name (i := 1) nd rfl (Or.inl rfl))) (fun _ _ _ _ _ => pts_one (pt_cmpR op_notIn_sign (pv 1) pe_str (by rfl))) (fun _ _ _ _ _ => (pv 1))) (pe_lst pa_nil) (nomark _))))) (pss_one (ps_ret pe_bl)) pss_nil)
    (pss_one (ps_ret (pe_or (pe_cmpR op_eq (pv 0) pe_str (nomark _)) (pe_one (pe_cmpR op_ne (pe_ix ix_str (pv 0) pe_int (fun _ _ => rfl)) pe_str (nomark _)))))))), ?_⟩
    try dsimp only [cxOf_K]
    obtain ⟨w, rfl, lw, aw, k⟩ := h
    have bad : ∀ H', Same H H' → ¬ Rx.okW (TL.tl w) → Q (.bl false) H' := fun H' s n => by
      have z := k H' s
      rwa [show Rx.okB (TL.tl w) = false from Bool.eq_false_iff.mpr fun h => n (Rx.okB_iff.mp h)] at z
    refine go_start (σ' := [_, none]) rfl ?_
    walk_at "gm"
    rw [is_empty]
    refine go_dec (fun e => ?_) (fun e => ?_)
    · walk_at "gm"
      exact bad H (Same.refl _) fun h => h.1 e
    · walk_at "gm"
      refine lcStrIf (fun c => !decide (48 ≤ c ∧ c ≤ 57)) (by omega) (fun _ => rfl) (fun c H1 Q1 hc s1 k1 => ?_) (fun c H1 Q1 hc hcc s1 k1 => ?_) fun D H3 nD s3 hD => ?_
      · dsimp only [List.map, wipe, List.set]
        walk_at "gm"
        refine ⟨c, "0123456789", rfl, rfl, _, rfl, ?_⟩
        rw [dig_in]
        exact k1 H1 (Same.refl H1)
      · dsimp only [List.map, wipe, List.set]
        walk_at "gm"
        exact k1 H1 (Same.refl H1)
      have ef : ((TL.tl w).filter fun c => !decide (48 ≤ c ∧ c ≤ 57)).map (fun x => V.str ⟨#[x]⟩) = (((TL.tl w).filter fun c => !decide (48 ≤ c ∧ c ≤ 57)).map fun x => (⟨#[x]⟩ : Str)).map V.str := by rw [List.map_map]; rfl
      rw [ef] at hD
      walk_at "gm"
      rename_i em H4 n4 s4 h4
      have S4 : Same H H4 := s3.trans s4
      refine go_neNil (.of (s4 _ _ hD)) (.of h4) (fun c hc => aw c (List.mem_filter.mp hc).1) ?_
      refine ⟨_, rfl, ?_⟩
      have fil : ((TL.tl w).filter fun c => !decide (48 ≤ c ∧ c ≤ 57)) = [] ↔ NumText.AllDigits (TL.tl w) := by
        rw [List.filter_eq_nil_iff]
        exact ⟨fun h c hc => by simpa using h c hc, fun h c hc => by simpa using h c hc⟩
      refine go_ndec (fun z => ?_) (fun z => ?_)
      · walk_at "gm"
        exact bad H4 S4 fun h => z (fil.mpr h.2.1)
      · have dg := fil.mp z
        have ne : TL.tl w ≠ [] := e
        have good : ∀ b : Bool, (b = true ↔ Rx.okW (TL.tl w)) → Q (.bl b) H4 := fun b hb => by
          rw [show b = Rx.okB (TL.tl w) from Bool.eq_iff_iff.mpr (hb.trans Rx.okB_iff.symm)]
          exact k H4 S4
        walk_at "gm"
        rw [is_zero]
        refine go_dec (fun y => ?_) (fun y => ?_)
        · exact good true ⟨fun _ => ⟨ne, dg, .inl y⟩, fun _ => rfl⟩
        · walk_at "gm"
          obtain ⟨c, r, ec⟩ := List.exists_cons_of_ne_nil ne
          refine ⟨w, 0, c, rfl, rfl, Nat.le_trans lw (by decide), ?_, ?_⟩
          · show atI (TL.tl w) 0 = some c
            rw [ec]
            exact atI_nat (n := 0) (xs := c :: r) (Nat.zero_lt_succ _)
          · walk_at "gm"
            refine bl_of (R := fun v => Q v H4) (y := decide (c ≠ 48)) ?_ (good _ ?_)
            · refine (congrArg (fun b => !b) ?_).trans (by rw [decide_not])
              exact (decide_eq_decide.mpr ⟨fun h => by cases h; rfl, fun h => by rw [h]⟩).trans sign_zero
            · rw [decide_eq_true_iff, ec]
              refine ⟨fun h => ⟨by simp, ec ▸ dg, .inr (fun q => h (by cases q; rfl))⟩, fun h q => ?_⟩
              rcases h.2.2 with h | h
              · exact y (ec.trans h)
              · exact h (by rw [q]; rfl)
theorem cl__law_is_count {P : Program} {w : World} {base : Heap} (S : HD sys K mg) : Cl P w K mg base CX0 1 "_law_is_count" (spIsCnt) := ⟨_, _, _, (fk_cl__law_is_count S), g__law_is_count S, (d__law_is_count S).kp, b__law_is_count S⟩
theorem cut_to (z : Str) (k : Nat) : TL.tl (cutS z none (some (k : Int))) = (TL.tl z).take k := by
  show (z.cps.toList.drop (HT.sIx z.length 0 none)).take (HT.sIx z.length z.length (some (k : Int)) - HT.sIx z.length 0 none) = _
  rw [HT.sIx_nat, HT.sIx_none, List.drop_zero, Nat.sub_zero]
  have : z.length = z.cps.toList.length := Array.length_toList.symm
  rw [this]
  exact List.take_eq_take_iff.mpr (by omega)
theorem cut_past (z : Str) (k : Nat) : TL.tl (cutS z (some (k : Int)) none) = (TL.tl z).drop k := by
  show (z.cps.toList.drop (HT.sIx z.length 0 (some (k : Int)))).take (HT.sIx z.length z.length none - HT.sIx z.length 0 (some (k : Int))) = _
  rw [HT.sIx_nat, HT.sIx_none]
  have : z.length = z.cps.toList.length := Array.length_toList.symm
  rw [this, List.take_of_length_le (by rw [List.length_drop]; exact Nat.le_refl _)]
  show z.cps.toList.drop _ = z.cps.toList.drop k
  by_cases h : k ≤ z.cps.toList.length
  · rw [Nat.min_eq_left h]
  · rw [Nat.min_eq_right (by omega), List.drop_length, List.drop_of_length_le (by omega)]
theorem go_cutS {H : Hp} {Q : VK} {z : Str} {lo hi : Option Int} (l : z.length ≤ 9000000) (k : Q (.str (cutS z lo hi)) H) : rSlS (.str z) lo hi H Q := ⟨z, rfl, Nat.le_trans l (by decide), k⟩
theorem is_minus {w : Str} : decide (V.str w = V.str "-") = decide (TL.tl w = [45]) := decide_eq_decide.mpr ⟨fun h => by
  cases h
  decide +kernel, fun h => congrArg V.str (TL.ext_tl (h.trans (by decide +kernel)))⟩
theorem is_mzero {w : Str} : decide (V.str w = V.str "-0") = decide (TL.tl w = [45, 48]) := decide_eq_decide.mpr ⟨fun h => by
  cases h
  decide +kernel, fun h => congrArg V.str (TL.ext_tl (h.trans (by decide +kernel)))⟩
def spIsTx : Sp := fun vs H Q _ => ∃ z : Str, vs = [.str z] ∧ z.length ≤ 300 ∧ AOk z ∧ ∀ (b : Bool) H', (b = true ↔ IsT z) → Same H H' → Q (.bl b) H'
theorem fk_cl__law_is_text {P : Program} {w : World} {base : Heap} (S : HD sys K mg) : FnOk P w K mg base CX0 2 (Pl.adr K (Pl.fn "_law_is_text")) (fdAt K (Pl.adr K (Pl.fn "_law_is_text"))) ["_law_line"] (spIsTx) := by
  refine (d__law_is_text S).ok sc__law_is_text (fun vs H Q E h => ?_) (fun cdv A outer s H vs Q E hr h => ?_)
  · repeat (first | (obtain ⟨rfl, _⟩ := h; rfl) | (obtain ⟨_, h⟩ := h))
  · have nd := sc__law_is_text.nd
    refine ⟨_, PSs.nox ((pss_cons (ps_asg (pe_partS (pv 0) pe_str) (pg_tup (by rfl) (pgs_cons (pg_name (i := 1) nd rfl (Or.inl rfl)) (pgs_cons (pg_name (i := 2) nd rfl (Or.inl rfl)) (pgs_cons (pg_name (i := 3) nd rfl (Or.inl rfl)) pgs_nil)))))
    (pss_cons (ps_mark (ps_set (i := 4) nd rfl (Or.inl rfl) (pe_ifExp (pt_cmpR op_eq (pe_slice sl_str (pv 1) po_none (po_some pe_int)) pe_str (nomark _)) (pe_slice sl_str (pv 1) (po_some pe_int) po_none) (pv 1))))
    (pss_cons (ps_if (PW.pt (pw_or (pt_not (pt_val (pe_f (cl__law_is_count S) hr (by decide) pass0 (pa_cons (pv 4) pa_nil)))) (pw_or1 (pt_cmpR op_eq (pv 1) pe_str (nomark _))))) (pss_one (ps_ret pe_bl)) pss_nil)
    (pss_cons (ps_if (pt_cmpR op_eq (pv 2) pe_str (nomark _)) (pss_one (ps_ret pe_bl)) pss_nil)
    (pss_cons (ps_if (PW.pt (pw_or (pt_not (pt_val (pe_f (cl__law_is_count S) hr (by decide) pass0 (pa_cons (pv 3) pa_nil)))) (pw_or (pt_cmpR op_lt (pe_callTy call_int_str (by rfl) (n_int S) (by decide +kernel) (pa_cons (pv 3) pa_nil)) pe_int (nomark _)) (pw_or1 (pt_cmpR op_eq (pv 4) pe_str (nomark _)))))) (pss_one (ps_ret pe_bl)) pss_nil)
    (pss_one (ps_ret (pe_cmpR op_eq (pe_f (cl__law_divisor S) hr (by decide) pass0 (pa_cons (pe_callTy call_int_str (by rfl) (n_int S) (by decide +kernel) (pa_cons (pv 4) pa_nil)) (pa_cons (pe_callTy call_int_str (by rfl) (n_int S) (by decide +kernel) (pa_cons (pv 3) pa_nil)) pa_nil))) pe_int (nomark _)))))))))), ?_⟩
    try dsimp only [cxOf_K]
    obtain ⟨z, rfl, lz, az, k⟩ := h
    obtain ⟨h, t, sg, ep, eh, hh, rest⟩ : ∃ (h t sg : Str), Txt.partition z "/" = (h, sg, t) ∧ 47 ∉ TL.tl h ∧ (∀ c ∈ TL.tl h, c < 1114112) ∧ ((TL.tl sg = [] ∧ h = z ∧ 47 ∉ TL.tl z) ∨ (TL.tl sg = [47] ∧ TL.tl z = TL.tl h ++ 47 :: TL.tl t)) := by
      have ey : TL.tl "/" = 47 :: [] := by decide +kernel
      by_cases q : 47 ∈ TL.tl z
      · obtain ⟨a, b, e, ha⟩ := List.eq_append_cons_of_mem q
        have ez : z = (⟨a.toArray⟩ : Str) ++ "/" ++ (⟨b.toArray⟩ : Str) := TL.ext_tl (by
          rw [TL.tl_append, TL.tl_append, ey, e]
          show _ = (a ++ [47]) ++ b
          rw [List.append_assoc]
          rfl)
        refine ⟨⟨a.toArray⟩, ⟨b.toArray⟩, "/", ?_, ha, fun c hc => az c (by rw [e]; exact List.mem_append_left _ hc), .inr ⟨by decide +kernel, e⟩⟩
        conv => lhs; rw [ez]
        exact TL.partition_app ey ha
      · exact ⟨z, Str.empty, Str.empty, TL.partition_none ey q, q, az, .inl ⟨rfl, rfl, q⟩⟩
    refine go_start (σ' := [_, none, none, none, none]) rfl ?_
    walk_at "gm"
    refine go_partS (by decide +kernel) (by omega) fun p H1 np s1 hp => ?_
    rw [ep] at hp
    have lh : h.length ≤ 300 := by
      rcases rest with ⟨_, rfl, _⟩ | ⟨_, e⟩
      · exact lz
      · have q := congrArg List.length e
        rw [List.length_append, List.length_cons, ← TL.len_tl, ← TL.len_tl] at q
        omega
    have isT2 : TL.tl z = TL.tl h ++ 47 :: TL.tl t → (IsT z ↔ Rx.Two (TL.tl h) (TL.tl t)) := fun e => by
      refine ⟨fun x => ?_, fun x => .inr ⟨_, _, e, eh, x⟩⟩
      rcases x with x | ⟨a', b', e', ha', x⟩
      · exact absurd (by rw [e]; exact List.mem_append_right _ List.mem_cons_self) x.1
      · obtain ⟨e1, e2⟩ := Rx.app_inj (e.symm.trans e') eh ha'
        rw [e1, e2]
        exact x
    have isT1 : h = z → 47 ∉ TL.tl z → (IsT z ↔ Rx.One (TL.tl z)) := fun _ q => by
      refine ⟨fun x => ?_, fun x => .inl x⟩
      rcases x with x | ⟨a', b', e', ha', x⟩
      · exact x
      · exact absurd (by rw [e']; exact List.mem_append_right _ List.mem_cons_self) q
    walk_at "gm"
    refine mark_N (fun σ' G => G = H1 ∧ ∃ w : Str, TL.tl w = Rx.bare (TL.tl h) ∧ σ' = [some (.str z), some (.str h), some (.str sg), some (.str t), some (.str w)]) ?_ ?_
    · rintro σ' G ⟨rfl, w, ew, rfl⟩
      have lw : w.length ≤ 300 := by
        rw [TL.len_tl, ew]
        have := Rx.bare_len (TL.tl h)
        rw [← TL.len_tl] at this
        omega
      have aw : AOk w := fun c hc => hh c (Rx.bare_sub _ c (ew ▸ hc))
      walk_at "gm"
      refine ⟨w, rfl, by omega, aw, fun H2 s2 => ?_⟩
      have S2 : Same H H2 := s1.trans s2
      cases q : Rx.okB (TL.tl w) with
      | false =>
        have nq : ¬ Rx.okW (Rx.bare (TL.tl h)) := fun x => by
          rw [← ew] at x
          rw [Rx.okB_iff.mpr x] at q
          cases q
        walk_at "gm"
        refine k false H2 ⟨fun x => (by cases x), fun x => ?_⟩ S2
        rcases rest with ⟨_, ez, n47⟩ | ⟨_, e⟩
        · have y := (isT1 ez n47).mp x
          rw [← ez] at y
          exact absurd y.2.1 nq
        · exact absurd ((isT2 e).mp x).1 nq
      | true =>
        have ow := Rx.okB_iff.mp q
        walk_at "gm"
        rw [is_mzero]
        refine go_dec (fun y => ?_) (fun y => ?_)
        · walk_at "gm"
          refine k false H2 ⟨fun x => (by cases x), fun x => ?_⟩ S2
          rcases rest with ⟨_, ez, n47⟩ | ⟨_, e⟩
          · have y2 := (isT1 ez n47).mp x
            rw [← ez] at y2
            exact absurd y y2.2.2
          · exact absurd y ((isT2 e).mp x).2.1
        · walk_at "gm"
          rw [is_empty]
          rcases rest with ⟨e0, ez, n47⟩ | ⟨e1, e⟩
          · refine go_dec (fun _ => ?_) (fun x => absurd e0 x)
            walk_at "gm"
            refine k true H2 ⟨fun _ => (isT1 ez n47).mpr ?_, fun _ => rfl⟩ S2
            rw [← ez]
            exact ⟨by rw [ez]; exact n47, ew ▸ ow, y⟩
          · refine go_dec (fun x => by rw [e1] at x; cases x) (fun _ => ?_)
            have at_ : AOk t := fun c hc => az c (by rw [e]; exact List.mem_append_right _ (List.mem_cons_of_mem _ hc))
            have lt : t.length ≤ 300 := by
              have q := congrArg List.length e
              rw [List.length_append, List.length_cons] at q
              have q1 := TL.len_tl z
              have q2 := TL.len_tl t
              omega
            have no : ∀ H', Same H H' → ¬ Rx.Two (TL.tl h) (TL.tl t) → Q (.bl false) H' := fun H' s x => k false H' ⟨fun y => (by cases y), fun y => absurd ((isT2 e).mp y) x⟩ s
            walk_at "gm"
            refine ⟨t, rfl, by omega, at_, fun H3 s3 => ?_⟩
            have S3 : Same H H3 := S2.trans s3
            cases q2 : Rx.okB (TL.tl t) with
            | false =>
              walk_at "gm"
              refine no H3 S3 fun x => ?_
              rw [Rx.okB_iff.mpr x.2.2.1] at q2
              cases q2
            | true =>
              have ot := Rx.okB_iff.mp q2
              walk_at "gm"
              refine ⟨t, ((NumText.digitsVal (TL.tl t) : Nat) : Int), rfl, intText_digits ot.2.1 ot.1 (by omega), by omega, ?_⟩
              walk_at "gm"
              refine go_dec (fun x => ?_) (fun x => ?_)
              · walk_at "gm"
                exact no H3 S3 fun y => by
                  have := y.2.2.2.1
                  omega
              · walk_at "gm"
                rw [is_zero]
                refine go_dec (fun x2 => ?_) (fun x2 => ?_)
                · walk_at "gm"
                  exact no H3 S3 fun y => y.2.2.2.2.1 (ew ▸ x2)
                · walk_at "gm"
                  refine ⟨w, ((NumText.digitsVal (TL.tl w) : Nat) : Int), rfl, intText_digits ow.2.1 ow.1 (by omega), by omega, ?_⟩
                  walk_at "gm"
                  refine ⟨t, ((NumText.digitsVal (TL.tl t) : Nat) : Int), rfl, intText_digits ot.2.1 ot.1 (by omega), by omega, ?_⟩
                  walk_at "gm"
                  refine ⟨_, _, rfl, by omega, by omega, ?_, ?_⟩
                  · rw [Int.natAbs_natCast]
                    exact Nat.lt_of_lt_of_le (Rx.val_lt ot.2.1) (Nat.le_trans (Nat.pow_le_pow_right (by decide) (by rw [← TL.len_tl]; exact lt)) (Nat.le_of_lt (show 10 ^ 300 < 2 ^ 1000 by decide +kernel)))
                  · walk_at "gm"
                    refine k _ H3 ⟨fun x3 => (isT2 e).mpr ⟨ew ▸ ow, y, ot, by omega, fun x4 => x2 (ew.trans x4), ?_⟩, fun x3 => ?_⟩ S3
                    · have z := of_decide_eq_true x3
                      unfold gc at z
                      rw [Int.natAbs_natCast, Int.natAbs_natCast, ew] at z
                      exact Int.ofNat.inj z
                    · refine decide_eq_true ?_
                      unfold gc
                      rw [Int.natAbs_natCast, Int.natAbs_natCast, ew, ((isT2 e).mp x3).2.2.2.2.2]
                      rfl
    · intro N cont
      walk_at "gm"
      refine go_cutS (by omega) ?_
      walk_at "gm"
      rw [is_minus, show cutS h none (some 1) = cutS h none (some ((1 : Nat) : Int)) from rfl, cut_to]
      have hd : (TL.tl h).take 1 = [45] ↔ (TL.tl h).head? = some 45 := by
        cases TL.tl h with
        | nil => exact ⟨fun x => (by cases x), fun x => (by cases x)⟩
        | cons c r => exact ⟨fun x => (by rw [(List.cons.inj x).1]; rfl), fun x => (by rw [Option.some.inj x]; rfl)⟩
      refine go_dec (fun y => ?_) (fun y => ?_)
      · walk_at "gm"
        refine go_cutS (by omega) ?_
        walk_at "gm"
        refine cont _ _ ⟨rfl, _, ?_, rfl⟩
        rw [show cutS h (some 1) none = cutS h (some ((1 : Nat) : Int)) none from rfl, cut_past]
        unfold Rx.bare
        rw [if_pos (hd.mp y), List.drop_one]
      · walk_at "gm"
        refine cont _ _ ⟨rfl, h, ?_, rfl⟩
        unfold Rx.bare
        rw [if_neg fun x => y (hd.mpr x)]
theorem cl__law_is_text {P : Program} {w : World} {base : Heap} (S : HD sys K mg) : Cl P w K mg base CX0 2 "_law_is_text" (spIsTx) := ⟨_, _, _, (fk_cl__law_is_text S), g__law_is_text S, (d__law_is_text S).kp, b__law_is_text S⟩
/-! ### a text with one thing otherwise -/
theorem cut_to_len (z : Str) (k : Nat) : (cutS z none (some (k : Int))).length ≤ k ∧ (cutS z none (some (k : Int))).length ≤ z.length := by
  rw [TL.len_tl, cut_to, List.length_take, TL.len_tl z]
  omega
theorem cut_past_len (z : Str) (k : Nat) : (cutS z (some (k : Int)) none).length + min k z.length = z.length := by
  rw [TL.len_tl, cut_past, List.length_drop, TL.len_tl z]
  omega
theorem AOk.cut_to {z : Str} (h : AOk z) (k : Nat) : AOk (cutS z none (some (k : Int))) := fun c hc => h c (by rw [K05.cut_to] at hc; exact List.mem_of_mem_take hc)
theorem AOk.cut_past {z : Str} (h : AOk z) (k : Nat) : AOk (cutS z (some (k : Int)) none) := fun c hc => h c (by rw [K05.cut_past] at hc; exact List.mem_of_mem_drop hc)
theorem AOk.app {u w : Str} (h : AOk u) (h2 : AOk w) : AOk (u ++ w) := fun c hc => by
  rw [TL.tl_append] at hc
  exact (List.mem_append.mp hc).elim (h c) (h2 c)
def okLit (w : Str) : Bool := decide (w.length ≤ 2) && (TL.tl w).all fun c => decide (c < 1114112)
theorem okLit_of {w : Str} (h : okLit w = true) : w.length ≤ 2 ∧ AOk w := by
  obtain ⟨a, b⟩ := Bool.and_eq_true_iff.mp h
  exact ⟨of_decide_eq_true a, fun c hc => of_decide_eq_true (List.all_eq_true.mp b c hc)⟩
def spBent : Sp := fun vs H Q _ => ∃ (p c : Addr) (n : Nat) (z : Str), vs = [.ref p, .str z] ∧ Pn H p c n ∧ n < 600000 ∧ z.length ≤ 200 ∧ AOk z ∧
  ∀ z' H', AOk z' → z'.length ≤ z.length + 2 → Pn H' p c (n + 3) → Kp p H H' → Q (.str z') H'
theorem fk_cl__law_bent {P : Program} {w : World} {base : Heap} (S : HD sys K mg) : FnOk P w K mg base CX0 3 (Pl.adr K (Pl.fn "_law_bent")) (fdAt K (Pl.adr K (Pl.fn "_law_bent"))) ["_law_pen_here", "_law_line"] (spBent) := by
  refine (d__law_bent S).ok sc__law_bent (fun vs H Q E h => ?_) (fun cdv A outer s H vs Q E hr h => ?_)
  · repeat (first | (obtain ⟨rfl, _⟩ := h; rfl) | (obtain ⟨_, h⟩ := h))
  · have nd := sc__law_bent.nd
    refine ⟨_, PSs.nox ((pss_cons (ps_par (i := 2) (j := 3) (by rfl) nd rfl rfl (by decide) rfl rfl (pa_cons (pe_f (cl__law_draw S) hr (by decide) pass0 (pa_cons (pv 0) (pa_cons pe_int pa_nil))) (pa_cons (pe_f (cl__law_draw S) hr (by decide) pass0 (pa_cons (pv 0) (pa_cons (pe_op op_add (pe_callB call_len_str (by rfl) (n_len S) (by decide +kernel) (pa_cons (pv 1) pa_nil)) pe_int) pa_nil))) pa_nil)) (by rfl))
    (pss_cons (ps_set (i := 4) nd rfl (Or.inl rfl) (pe_f (cl__law_pick S) hr (by decide) pass0 (pa_cons (pv 0) (pa_cons (pe_lst (pa_cons pe_str (pa_cons pe_str (pa_cons pe_str (pa_cons pe_str (pa_cons pe_str (pa_cons pe_str (pa_cons pe_str (pa_cons pe_str (pa_cons pe_str (pa_cons pe_str (pa_cons pe_str (pa_cons pe_str (pa_cons pe_str (pa_cons pe_str (pa_cons pe_str pa_nil)))))))))))))))) pa_nil))))
    (pss_cons (ps_if (pt_cmpR op_eq (pv 2) pe_int (nomark _)) (pss_one (ps_ret (pe_op op_addS (pe_slice sl_str (pv 1) po_none (po_some (pv 3))) (pe_slice sl_str (pv 1) (po_some (pe_op op_add (pv 3) pe_int)) po_none)))) pss_nil)
    (pss_cons (ps_if (pt_cmpR op_eq (pv 2) pe_int (nomark _)) (pss_one (ps_ret (pe_op op_addS (pe_op op_addS (pe_slice sl_str (pv 1) po_none (po_some (pv 3))) (pv 4)) (pe_slice sl_str (pv 1) (po_some (pv 3)) po_none)))) pss_nil)
    (pss_cons (ps_if (pt_cmpR op_eq (pv 2) pe_int (nomark _)) (pss_one (ps_ret (pe_op op_addS (pe_op op_addS (pe_slice sl_str (pv 1) po_none (po_some (pv 3))) (pe_revS (pe_slice sl_str (pe_slice sl_str (pv 1) (po_some (pv 3)) po_none) po_none (po_some pe_int)))) (pe_slice sl_str (pv 1) (po_some (pe_op op_add (pv 3) pe_int)) po_none)))) pss_nil)
    (pss_one (ps_ret (pe_op op_addS (pe_op op_addS (pe_slice sl_str (pv 1) po_none (po_some (pv 3))) (pv 4)) (pe_slice sl_str (pv 1) (po_some (pe_op op_add (pv 3) pe_int)) po_none)))))))))), ?_⟩
    try dsimp only [cxOf_K]
    obtain ⟨p, c, n, z, rfl, hP, hn, lz, az, k⟩ := h
    refine go_start (σ' := [_, _, none, none, none]) rfl ?_
    walk_at "gm"
    refine ⟨z, rfl, Nat.le_trans lz (by decide), ?_⟩
    walk_at "gm"
    rename_i way D1 w0 w1 P1 k1 at_ D2 a0 a1 P2 k2 g G ng sg hg v Hv hv Pv kv
    obtain ⟨i, rfl⟩ : ∃ i : Nat, at_ = i := ⟨at_.toNat, by omega⟩
    obtain ⟨w, rfl, lw, aw⟩ : ∃ w, v = .str w ∧ w.length ≤ 2 ∧ AOk w := by
      obtain ⟨w, hw, rfl⟩ := List.mem_map.mp (show v ∈ (["/", "-", "0", "1", "2", "4", "9", " ", "\n", "+", ".", "00", "/1", "/2", ""] : List Str).map V.str from hv)
      have all : ∀ w ∈ (["/", "-", "0", "1", "2", "4", "9", " ", "\n", "+", ".", "00", "/1", "/2", ""] : List Str), okLit w = true := by decide +kernel
      exact ⟨w, rfl, okLit_of (all w hw)⟩
    have b0 := cut_to_len z i
    have b1 := cut_past_len z i
    have b2 := cut_past_len z (i + 1)
    have b3 := cut_past_len z (i + 2)
    have e1 : (i : Int) + 1 = ((i + 1 : Nat) : Int) := rfl
    have e2 : (i : Int) + 2 = ((i + 2 : Nat) : Int) := rfl
    have fin : ∀ z' : Str, AOk z' → z'.length ≤ z.length + 2 → Q (.str z') Hv := fun z' a l => k z' Hv a l (Pn.mono (by walk_at "pen") (by omega)) (by walk_at "kp")
    refine go_dec (fun y => ?_) (fun y => ?_)
    · walk_at "gm"
      refine go_cutS (by omega) ?_
      walk_at "gm"
      rw [e1]
      refine go_cutS (by omega) ?_
      walk_at "gm"
      refine go_adds (by omega) ?_
      walk_at "gm"
      refine fin _ ((az.cut_to i).app (az.cut_past _)) ?_
      rw [PySem.Str.length_append]
      omega
    walk_at "gm"
    refine go_dec (fun y => ?_) (fun y => ?_)
    · walk_at "gm"
      refine go_cutS (by omega) ?_
      walk_at "gm"
      refine go_adds (by omega) ?_
      walk_at "gm"
      refine go_cutS (by omega) ?_
      walk_at "gm"
      refine go_adds (by rw [PySem.Str.length_append]; omega) ?_
      walk_at "gm"
      refine fin _ (((az.cut_to i).app aw).app (az.cut_past _)) ?_
      rw [PySem.Str.length_append, PySem.Str.length_append]
      omega
    walk_at "gm"
    refine go_dec (fun y => ?_) (fun y => ?_)
    · walk_at "gm"
      refine go_cutS (by omega) ?_
      walk_at "gm"
      refine go_revS ?_
      walk_at "gm"
      refine go_cutS (by omega) ?_
      walk_at "gm"
      refine go_cutS (by omega) ?_
      walk_at "gm"
      rw [show cutS (cutS z (some (i : Int)) none) none (some 2) = cutS (cutS z (some (i : Int)) none) none (some ((2 : Nat) : Int)) from rfl]
      have b4 := cut_to_len (cutS z (some (i : Int)) none) 2
      have a4 : AOk (cutS (cutS z (some (i : Int)) none) none (some ((2 : Nat) : Int))) := (az.cut_past i).cut_to 2
      generalize cutS (cutS z (some (i : Int)) none) none (some ((2 : Nat) : Int)) = u at b4 a4 ⊢
      refine go_revSx (by omega) fun r lr sr => ?_
      have ar : AOk r := fun c hc => a4 c (sr c hc)
      walk_at "gm"
      refine go_adds (by omega) ?_
      walk_at "gm"
      rw [e2]
      refine go_cutS (by omega) ?_
      walk_at "gm"
      refine go_adds (by rw [PySem.Str.length_append]; omega) ?_
      walk_at "gm"
      refine fin _ (((az.cut_to i).app ar).app (az.cut_past _)) ?_
      rw [PySem.Str.length_append, PySem.Str.length_append]
      omega
    · walk_at "gm"
      refine go_cutS (by omega) ?_
      walk_at "gm"
      refine go_adds (by omega) ?_
      walk_at "gm"
      rw [e1]
      refine go_cutS (by omega) ?_
      walk_at "gm"
      refine go_adds (by rw [PySem.Str.length_append]; omega) ?_
      walk_at "gm"
      refine fin _ (((az.cut_to i).app aw).app (az.cut_past _)) ?_
      rw [PySem.Str.length_append, PySem.Str.length_append]
      omega
theorem cl__law_bent {P : Program} {w : World} {base : Heap} (S : HD sys K mg) : Cl P w K mg base CX0 3 "_law_bent" (spBent) := ⟨_, _, _, (fk_cl__law_bent S), g__law_bent S, (d__law_bent S).kp, b__law_bent S⟩
/-! ### who is asked -/
def spHeard (K : PySem.W.Frag) : Sp := fun vs H Q _ => ∃ v : V, vs = [v] ∧
  ((∃ z : Str, v = .str z ∧ AOk z ∧ (z.length ≤ 300 ∨ (47 ∉ TL.tl z ∧ z.length ≤ 4000)) ∧ (IsT z → ∀ p H', Same H H' → H' p = some (.lst [.str z]) → Q (.ref p) H') ∧ (¬ IsT z → ∀ p H', Same H H' → H' p = some (.tup [.int 0, .int 0]) → Q (.ref p) H')) ∨
   (NoStr K H v ∧ ∀ p H', Same H H' → H' p = some (.tup [.int 0, .int 0]) → Q (.ref p) H'))
theorem fk_cl__law_heard {P : Program} {w : World} {base : Heap} (S : HD sys K mg) : FnOk P w K mg base CX0 5 (Pl.adr K (Pl.fn "_law_heard")) (fdAt K (Pl.adr K (Pl.fn "_law_heard"))) ["_law_text_so"] (spHeard K) := by
  refine (d__law_heard S).ok sc__law_heard (fun vs H Q E h => ?_) (fun cdv A outer s H vs Q E hr h => ?_)
  · repeat (first | (obtain ⟨rfl, _⟩ := h; rfl) | (obtain ⟨_, h⟩ := h))
  · have nd := sc__law_heard.nd
    refine ⟨_, PSs.nox ((pss_cons (ps_asg (pe_tup (pa_cons pe_non (pa_cons pe_non pa_nil))) (pg_tup (by rfl) (pgs_cons (pg_name (i := 1) nd rfl (Or.inl rfl)) (pgs_cons (pg_name (i := 2) nd rfl (Or.inl rfl)) pgs_nil))))
    (pss_cons (ps_tryE (i := 3) (c := .ref (ga K "CreditError")) (n := 4) rfl rfl rfl nd rfl rfl ⟨rfl, by decide, .inl (g_CreditError S)⟩ rfl (fun _ _ _ tk_ => (pss_one (ps_set (i := 2) nd rfl (Or.inl rfl) (pe_cm (cm_Ratio_read S) hr (by decide) (passes_call tk_ (fun _ _ _ _ h => h)) (pe_glob (v := .ref (ga K "Ratio")) rfl (g_Ratio S) rfl) (pa_cons (pv 0) pa_nil))))) (fun _ _ _ _ _ _ _ => (pss_one (ps_set (i := 1) nd rfl (Or.inl rfl) (pv 3)))))
    (pss_cons (ps_if (pt_cmpR op_isN1 (pv 1) pe_non (nomark _)) (pss_one (ps_ret (pe_lst (pa_cons (pe_callTy (call_strO (op_Ratio___str__ S) hr (by decide) pass0) (by rfl) (n_str S) (by decide +kernel) (pa_cons (pv 2) pa_nil)) pa_nil)))) pss_nil)
    (pss_one (ps_ret (pe_ifExp (pt_val (pe_callB call_isX (by rfl) (n_isinstance S) (by decide +kernel) (pa_cons (pv 1) (pa_cons (pe_glob (v := .ref (ga K "BadText")) rfl (g_BadText S) rfl) pa_nil)))) (pe_tup (pa_cons (pe_xk (pv 1)) (pa_cons (pe_xk (pv 1)) pa_nil))) pe_str))))))), ?_⟩
    try dsimp only [cxOf_K]
    obtain ⟨v, rfl, h⟩ := h
    refine go_start (σ' := [_, none, none, none]) rfl ?_
    walk_at "gm"
    rename_i t0 H0 n0 s0 h0
    refine ⟨fun cls d H' => ∃ dd, cls = .ref (ga K "BadText") ∧ d = some dd ∧ H' dd = some (.xd [("word", .int 0), ("line", .int 0)]) ∧ ∀ p H'', Same H' H'' → H'' p = some (.tup [.int 0, .int 0]) → Q (.ref p) H'', ?_, ?_⟩
    · rintro cls d σ' H' ⟨dd, rfl, rfl, hd, k⟩ hl
      refine ⟨true, exm_BadText__CreditError__true S, fun _ a na => ?_, fun z => by cases z⟩
      have s2 : (σ'.set 3 (some (V.ref a)))[3]? = some (some (V.ref a)) := slot_set hl (by decide)
      refine go_asg (go_var s2 ?_)
      refine go_name rfl ?_
      have s1 : (((σ'.set 3 (some (V.ref a))).set 1 (some (V.ref a))).set 3 none)[1]? = some (some (V.ref a)) :=
        slot_past (slot_set (n := 4) (by rw [List.length_set]; exact hl) (by decide)) (by decide)
      have hx : upd H' a (ExK (.ref (ga K "BadText")) (some dd) a) a = some (ExK (.ref (ga K "BadText")) (some dd) a) := upd_same
      have hd' : upd H' a (ExK (.ref (ga K "BadText")) (some dd) a) dd = some (.xd [("word", .int 0), ("line", .int 0)]) := upd_keep na hd
      walk_at "gm"
      refine go_var s1 ?_
      walk_at "gm"
      refine go_var s1 ?_
      walk_at "gm"
      refine go_isx hx hd' (exb_BadText S).2.1 (.own _) (kit_o_BadText__o_BadText__true S) ?_
      walk_at "gm"
      refine go_xk (go_var s1 ?_)
      refine go_xkx hx (exb_BadText S).1 (na_BadText_line S) hd' (by walk_at "lk") ?_
      walk_at "gm"
      refine go_xk (go_var s1 ?_)
      refine go_xkx hx (exb_BadText S).1 (na_BadText_word S) hd' lk_here ?_
      walk_at "gm"
      rename_i p H2 np s2 hp
      exact k p H2 ((Same.new na).trans s2) hp
    · have er : (∀ p H', Same H H' → H' p = some (.tup [.int 0, .int 0]) → Q (.ref p) H') → ∀ H', Same H H' → ErT K H' fun cls d H' => ∃ dd, cls = .ref (ga K "BadText") ∧ d = some dd ∧ H' dd = some (.xd [("word", .int 0), ("line", .int 0)]) ∧ ∀ p H'', Same H' H'' → H'' p = some (.tup [.int 0, .int 0]) → Q (.ref p) H'' :=
        fun k H' s d H2 nd s2 hd => ⟨d, rfl, rfl, hd, fun p H3 s3 hp => k p H3 (s.trans (s2.trans s3)) hp⟩
      walk_at "gm"
      refine ⟨v, rfl, ?_⟩
      rcases h with ⟨z, rfl, az, lz, k1, k2⟩ | ⟨hn, k⟩
      · refine .inl ⟨z, rfl, az, lz, fun ok x H2 nx s2 gx => ?_, fun nt H' s => er (k2 nt) H' (s0.trans s)⟩
        obtain ⟨n, d, hx, ez, big, sm⟩ := gx
        obtain ⟨dx, hx'⟩ := id hx
        walk_at "gm"
        refine ⟨x, n, d, rfl, hx, big, sm, ?_⟩
        rw [ez]
        walk_at "gm"
        rename_i p H3 np s3 hp
        exact k1 ok p H3 (s0.trans (s2.trans s3)) hp
      · obtain ⟨ty, h1, h2⟩ := hn
        exact .inr ⟨⟨ty, tyX_same h1 s0, h2⟩, er k H0 s0⟩
theorem cl__law_heard {P : Program} {w : World} {base : Heap} (S : HD sys K mg) : Cl P w K mg base CX0 5 "_law_heard" (spHeard K) := ⟨_, _, _, (fk_cl__law_heard S), g__law_heard S, (d__law_heard S).kp, b__law_heard S⟩
/-! ### the law -/
theorem isT_iff {z : Str} : IsT z ↔ Rx.isB (TL.tl z) = true := Rx.isB_iff.symm
theorem isT_no {z : Str} (h : Rx.isB (TL.tl z) = false) : ¬ IsT z := fun q => by
  rw [isT_iff.mp q] at h
  cases h
theorem low_gcd {a b : Int} (hb : 0 < b) : Nat.gcd (a / gc a b).natAbs (b / gc a b).natAbs = 1 ∧ 0 < b / gc a b := by
  have g0 := gc_pos' (t := a) (show b ≠ 0 by omega)
  have e : gc a b = ((Nat.gcd a.natAbs b.natAbs : Nat) : Int) := rfl
  have da : gc a b ∣ a := by
    rw [e]
    exact Int.ofNat_dvd_left.mpr (Nat.gcd_dvd_left _ _)
  have db : gc a b ∣ b := by
    rw [e]
    exact Int.ofNat_dvd_left.mpr (Nat.gcd_dvd_right _ _)
  refine ⟨?_, Int.ediv_pos_of_pos_of_dvd hb (by omega) db⟩
  rw [Int.natAbs_ediv_of_dvd da, Int.natAbs_ediv_of_dvd db]
  have n : (gc a b).natAbs = Nat.gcd a.natAbs b.natAbs := by rw [e, Int.natAbs_natCast]
  rw [n]
  have gp : 0 < Nat.gcd a.natAbs b.natAbs := Nat.gcd_pos_of_pos_right _ (by omega)
  rw [Nat.gcd_div (Nat.gcd_dvd_left _ _) (Nat.gcd_dvd_right _ _), Nat.div_self gp]
theorem go_neLL {H : Hp} {Q : VK} {a b : Addr} {z : Str} (ha : H a = some (.lst [.str z])) (hb : H b = some (.lst [.str z])) (ok : AOk z) (k : Q (.bl false) H) : rNeD K (.ref a) (.ref b) H Q := by
  refine ⟨.list [.str z], .list [.str z], .lst (.of ha) (dpStrs [z]), .lst (.of hb) (dpStrs [z]), shStrs (ws := [z]) (fun w hw => by rw [List.mem_singleton.mp hw]; exact ok_str ok), shStrs (ws := [z]) (fun w hw => by rw [List.mem_singleton.mp hw]; exact ok_str ok), ?_⟩
  refine bl_of (R := fun v => Q v H) (y := false) (by simp [PyData.eqv, PyData.eqvAll]) k
theorem go_neTT {H : Hp} {Q : VK} {a b : Addr} (ha : H a = some (.tup [.int 0, .int 0])) (hb : H b = some (.tup [.int 0, .int 0])) (k : Q (.bl false) H) : rNeD K (.ref a) (.ref b) H Q := by
  refine ⟨.tuple [.int 0, .int 0], .tuple [.int 0, .int 0], .tup (.of ha) (.cons (.int _) (.cons (.int _) .nil)), .tup (.of hb) (.cons (.int _) (.cons (.int _) .nil)), by decide +kernel, by decide +kernel, ?_⟩
  refine bl_of (R := fun v => Q v H) (y := false) (by decide +kernel) k
theorem heard_no {H : Hp} {Q : VK} {E : XK} {v : V} (h : NoStr K H v ∨ ∃ z : Str, v = .str z ∧ AOk z ∧ (z.length ≤ 300 ∨ (47 ∉ TL.tl z ∧ z.length ≤ 4000)) ∧ ¬ IsT z) (k : ∀ p H', Same H H' → H' p = some (.tup [.int 0, .int 0]) → Q (.ref p) H') : spHeard K [v] H Q E := by
  rcases h with h | ⟨z, rfl, a, l, n⟩
  · exact ⟨v, rfl, .inr ⟨h, k⟩⟩
  · exact ⟨_, rfl, .inl ⟨z, rfl, a, l, fun q => absurd q n, fun _ => k⟩⟩
theorem fold_rep (a : Array Nat) : ∀ (n : Nat) (acc : Array Nat), ((List.replicate n a).foldl (· ++ ·) acc).toList = acc.toList ++ (List.replicate n a.toList).flatten
  | 0, acc => by simp
  | n + 1, acc => by
    rw [List.replicate_succ, List.foldl_cons, fold_rep a n, Array.toList_append, List.replicate_succ, List.flatten_cons, List.append_assoc]
theorem flat_one (c : Nat) : ∀ n : Nat, (List.replicate n [c]).flatten = List.replicate n c
  | 0 => rfl
  | n + 1 => by
    rw [List.replicate_succ, List.flatten_cons, flat_one c n]
    rfl
theorem tl_repS {w : Str} {c : Nat} (h : TL.tl w = [c]) (n : Nat) : TL.tl (repS w n) = List.replicate n c := by
  show ((List.replicate n w.cps).foldl (· ++ ·) #[]).toList = _
  rw [fold_rep, show w.cps.toList = [c] from h, flat_one]
  rfl
theorem rep_ok {z : Str} {n c : Nat} (h : TL.tl z = List.replicate n c) (hc : c < 1114112 ∧ c ≠ 47) (hn : n ≤ 4000) : AOk z ∧ (z.length ≤ 300 ∨ (47 ∉ TL.tl z ∧ z.length ≤ 4000)) := by
  refine ⟨fun d hd => ?_, .inr ⟨fun m => ?_, ?_⟩⟩
  · rw [h] at hd
    have := List.eq_of_mem_replicate hd
    omega
  · rw [h] at m
    exact hc.2 (List.eq_of_mem_replicate m).symm
  · rw [TL.len_tl, h, List.length_replicate]
    exact hn
theorem ones_is {z : Str} (h : TL.tl z = List.replicate 4000 49) : IsT z := by
  refine .inl ?_
  rw [h]
  have hd : (List.replicate 4000 49).head? = some 49 := rfl
  have b : Rx.bare (List.replicate 4000 49) = List.replicate 4000 49 := if_neg (by rw [hd]; decide)
  refine ⟨fun m => absurd (List.eq_of_mem_replicate m) (by decide), ?_, fun q => ?_⟩
  · rw [b]
    refine ⟨fun q => ?_, fun c hc => ?_, .inr (by rw [hd]; decide)⟩
    · rw [q] at hd
      cases hd
    · rw [List.eq_of_mem_replicate hc]
      decide
  · rw [q] at hd
    cases hd
theorem noughts_not {z : Str} (h : TL.tl z = List.replicate 4000 48) : ¬ IsT z := by
  have hd : (List.replicate 4000 48).head? = some 48 := rfl
  have b : Rx.bare (List.replicate 4000 48) = List.replicate 4000 48 := if_neg (by rw [hd]; decide)
  rintro (q | ⟨x, y, e, _, _⟩)
  · rw [h] at q
    have o := q.2.1
    rw [b] at o
    rcases o.2.2 with w | w
    · have := congrArg List.length w
      rw [List.length_replicate] at this
      cases this
    · exact w hd
  · have m : 47 ∈ TL.tl z := by
      rw [e]
      exact List.mem_append_right _ List.mem_cons_self
    rw [h] at m
    exact absurd (List.eq_of_mem_replicate m) (by decide)
def t00 : PyData := .tuple [.int 0, .int 0]
theorem dp00 {H : Hp} : ∀ {vs : List V}, (∀ v ∈ vs, ∃ q, v = .ref q ∧ H q = some (.tup [.int 0, .int 0])) → DpAll K H vs (vs.map fun _ => t00)
  | [], _ => .nil
  | v :: vs, h => by
    obtain ⟨q, rfl, hq⟩ := h v List.mem_cons_self
    exact .cons (.tup (.of hq) (.cons (.int _) (.cons (.int _) .nil))) (dp00 fun u hu => h u (List.mem_cons_of_mem _ hu))
theorem all00 {vs : List V} (h : vs.length = 10) : (vs.map fun _ => t00) = List.replicate 10 t00 := by
  rw [← h]
  exact List.map_const'
theorem go_eqLL {H : Hp} {Q : VK} {a b : Addr} {z : Str} (ha : H a = some (.lst [.str z])) (hb : H b = some (.lst [.str z])) (ok : AOk z) (k : Q (.bl true) H) : rEqD K (.ref a) (.ref b) H Q := by
  refine ⟨.list [.str z], .list [.str z], .lst (.of ha) (dpStrs [z]), .lst (.of hb) (dpStrs [z]), shStrs (ws := [z]) (fun w hw => by rw [List.mem_singleton.mp hw]; exact ok_str ok), shStrs (ws := [z]) (fun w hw => by rw [List.mem_singleton.mp hw]; exact ok_str ok), ?_⟩
  refine bl_of (R := fun v => Q v H) (y := true) (by simp [PyData.eqv, PyData.eqvAll]) k
def litOk (w : Str) : Bool := decide (w.length ≤ 300) && (TL.tl w).all fun c => decide (c < 1114112)
theorem lit_ok {w : Str} (h : litOk w = true) : AOk w ∧ (w.length ≤ 300 ∨ (47 ∉ TL.tl w ∧ w.length ≤ 4000)) := by
  obtain ⟨a, b⟩ := Bool.and_eq_true_iff.mp h
  exact ⟨fun c hc => of_decide_eq_true (List.all_eq_true.mp b c hc), .inl (of_decide_eq_true a)⟩
def spLaw (K : PySem.W.Frag) : Sp := fun vs H Q _ => ∃ (a : Addr) (ns : List Int), vs = [.ref a] ∧ SqL K H a (ns.map V.int) ∧ ∀ H', Q (.bl true) H'
theorem law_ok {P : Program} {w : World} {base : Heap} (S : HD sys K mg) : FnOkG P w K mg base CX0 6 (Pl.adr K (Pl.fn "law")) (fdAt K (Pl.adr K (Pl.fn "law"))) ["_law_script"] (spLaw K) := by
  refine (d_law S).okGD sc_law (fun vs H Q E h => ?_) (fun A outer s H vs Q E hgd hr h => ?_)
  · repeat (first | (obtain ⟨rfl, _⟩ := h; rfl) | (obtain ⟨_, h⟩ := h))
  · have nd := sc_law.nd
    refine ⟨_, PSs.nox ((pss_cons (ps_set (i := 1) nd rfl (Or.inl rfl) (pe_f (cl__law_pen S) hr (by decide) pass0 (pa_cons (pv 0) pa_nil)))
    (pss_cons (ps_for PassesOwn.never rfl (pi_range1 (by rfl) (n_range S) (pa_cons pe_int pa_nil)) (pg_name (i := 2) nd rfl (Or.inl rfl))
      (pss_cons (ps_asg (pe_f (cl__law_pair S) hr (by decide) pass0 (pa_cons (pv 1) pa_nil)) (pg_tup (by rfl) (pgs_cons (pg_name (i := 3) nd rfl (Or.inl rfl)) (pgs_cons (pg_name (i := 4) nd rfl (Or.inl rfl)) pgs_nil))))
    (pss_cons (ps_set (i := 5) nd rfl (Or.inl rfl) (pe_f (cl__law_divisor S) hr (by decide) pass0 (pa_cons (pe_callB call_abs (by rfl) (n_abs S) (by decide +kernel) (pa_cons (pv 3) pa_nil)) (pa_cons (pv 4) pa_nil))))
    (pss_cons (ps_par (i := 6) (j := 7) (by rfl) nd rfl rfl (by decide) rfl rfl (pa_cons (pe_op op_fdivV (pv 3) (pv 5)) (pa_cons (pe_op op_fdivV (pv 4) (pv 5)) pa_nil)) (by rfl))
    (pss_cons (ps_mark (ps_set (i := 8) nd rfl (Or.inl rfl) (pe_ifExp (pt_cmpR op_eq (pv 7) pe_int (nomark _)) (pe_callTy call_str_int (by rfl) (n_str S) (by decide +kernel) (pa_cons (pv 6) pa_nil)) (pe_op op_addS (pe_op op_addS (pe_callTy call_str_int (by rfl) (n_str S) (by decide +kernel) (pa_cons (pv 6) pa_nil)) pe_str) (pe_callTy call_str_int (by rfl) (n_str S) (by decide +kernel) (pa_cons (pv 7) pa_nil))))))
    (pss_cons (ps_if (PW.pt (pw_or (pt_cmpR op_ne (pe_callTy (call_strO (op_Ratio___str__ S) hr (by decide) pass0) (by rfl) (n_str S) (by decide +kernel) (pa_cons (pe_mke (mke_Ratio S) hr (by decide) pass0 (pa_cons (pv 3) (pa_cons (pv 4) pa_nil))) pa_nil)) (pv 8) (nomark _)) (pw_or1 (pt_cmpR (op_neq (op_Ratio___eq__ S) (ne_Ratio S) (in_Ratio S).hm hr (by decide) pass0) (pe_cmK (cmk_Ratio_read_text S) hr (by decide) pass_none (pe_glob (v := .ref (ga K "Ratio")) rfl (g_Ratio S) rfl) (pk_cons (pv 8) pk_nil)) (pe_mke (mke_Ratio S) hr (by decide) pass0 (pa_cons (pv 3) (pa_cons (pv 4) pa_nil))) (nomark _))))) (pss_one (ps_ret pe_bl)) pss_nil)
    (pss_cons (ps_for PassesOwn.never rfl (pi_list (pe_lst (pa_cons (pe_f (cl__law_bent S) hr (by decide) pass0 (pa_cons (pv 1) (pa_cons (pv 8) pa_nil))) (pa_cons (pe_f (cl__law_bent S) hr (by decide) pass0 (pa_cons (pv 1) (pa_cons (pe_f (cl__law_bent S) hr (by decide) pass0 (pa_cons (pv 1) (pa_cons (pv 8) pa_nil))) pa_nil))) pa_nil)))) (pg_name (i := 9) nd rfl (Or.inl rfl))
      (pss_one (ps_if (pt_cmpR (op_neD hr.units) (pe_f (cl__law_heard S) hr (by decide) pass0 (pa_cons (pv 9) pa_nil)) (pe_ifExp (pt_val (pe_f (cl__law_is_text S) hr (by decide) pass0 (pa_cons (pv 9) pa_nil))) (pe_lst (pa_cons (pv 9) pa_nil)) (pe_tup (pa_cons pe_int (pa_cons pe_int pa_nil)))) (nomark _)) (pss_one (ps_ret pe_bl)) pss_nil)))
    (pss_cons (ps_set (i := 10) nd rfl (Or.inl rfl) (pe_f (cl__law_pick S) hr (by decide) pass0 (pa_cons (pv 1) (pa_cons (pe_lst (pa_cons pe_non (pa_cons pe_int (pa_cons pe_bl (pa_cons (pe_lst (pa_cons (pv 8) pa_nil)) (pa_cons (pe_tup (pa_cons (pv 8) pa_nil)) (pa_cons pe_dnewK (pa_cons pe_str (pa_cons pe_str (pa_cons pe_str (pa_cons (pe_mke (mke_Ratio S) hr (by decide) pass0 (pa_cons (pv 3) (pa_cons (pv 4) pa_nil))) (pa_cons (pe_op op_pow pe_int pe_int) pa_nil)))))))))))) pa_nil))))
    (pss_one (ps_if (pt_cmpR (op_neD hr.units) (pe_f (cl__law_heard S) hr (by decide) pass0 (pa_cons (pv 10) pa_nil)) (pe_tup (pa_cons pe_int (pa_cons pe_int pa_nil))) (nomark _)) (pss_one (ps_ret pe_bl)) pss_nil))))))))))
    (pss_cons (ps_if (PW.pt (pw_or (pt_cmpR (op_neD hr.units) (pe_f (cl__law_heard S) hr (by decide) pass0 (pa_cons (pe_op op_repS pe_str pe_int) pa_nil)) (pe_lst (pa_cons (pe_op op_repS pe_str pe_int) pa_nil)) (nomark _)) (pw_or1 (pt_cmpR (op_neD hr.units) (pe_f (cl__law_heard S) hr (by decide) pass0 (pa_cons (pe_op op_repS pe_str pe_int) pa_nil)) (pe_tup (pa_cons pe_int (pa_cons pe_int pa_nil))) (nomark _))))) (pss_one (ps_ret pe_bl)) pss_nil)
    (pss_cons (ps_set (i := 11) nd rfl (Or.inl rfl) (pe_lst (pa_cons pe_str (pa_cons pe_str (pa_cons pe_str (pa_cons pe_str (pa_cons pe_str (pa_cons pe_str (pa_cons pe_str (pa_cons pe_str (pa_cons pe_str (pa_cons pe_str pa_nil))))))))))))
    (pss_one (ps_ret (pe_and (pe_cmpR (op_eqD hr.units) (pe_lc (own := [("_law_line", 8)]) (g := gName 8) rfl nd (pi_list (pv 11)) (blkOk_by (own := [("_law_line", 8)]) (N := ["_law_script", "_law_pen_here", "_law_lap", "_law_high", "_law_low", "_law_shared", "_law_top_so", "_law_base", "_law_line", "_law_bent_here", "_law_odd", "_law_some"]) (sc := defScope s_law) (by decide +kernel)) (fun _ _ _ _ _ => (pg_name (i := 8) nd rfl (Or.inl rfl))) (fun _ _ _ _ _ => pts_nil) (fun _ _ _ _ _ => (pe_f (cl__law_heard S) hr (by decide) pass0 (pa_cons (pv 8) pa_nil)))) (pe_op op_rep (pe_lst (pa_cons (pe_tup (pa_cons pe_int (pa_cons pe_int pa_nil))) pa_nil)) pe_int) (nomark _)) (pe_one (pe_cmpR (op_eqD hr.units) (pe_f (cl__law_heard S) hr (by decide) pass0 (pa_cons pe_str pa_nil)) (pe_lst (pa_cons pe_str pa_nil)) (nomark _))))))))))), ?_⟩
    try dsimp only [cxOf_K]
    obtain ⟨a, ns, rfl, hS, k⟩ := h
    refine go_start (σ' := [_, none, none, none, none, none, none, none, none, none, none, none]) rfl ?_
    walk_at "gm"
    refine ⟨a, ns, rfl, hS, fun p c H0 P0 s0 np nc => ?_⟩
    walk_at "gm"
    refine forRange (fun i σ' H' => Pn H' p c (i * 40) ∧ ∃ u2 u3 u4 u5 u6 u7 u8 u9 u10, σ' = [some (.ref a), some (.ref p), u2, u3, u4, u5, u6, u7, u8, u9, u10, none]) ⟨P0, none, none, none, none, none, none, none, none, none, rfl⟩ ?_ ?_
    · rintro i σ H1 hi ⟨P1, u2, u3, u4, u5, u6, u7, u8, u9, u10, rfl⟩
      have hi10 : i < 10 := hi
      walk_at "gm"
      refine ⟨p, c, _, rfl, P1, by omega, fun t h l H2 nt ht pr P2 k2 => ?_⟩
      obtain ⟨⟨h1, h2⟩, l1, l2⟩ := pr
      have g0 := gc_pos' (t := h) (show l ≠ 0 by omega)
      have g1 := gc_le' (t := h) (show l ≠ 0 by omega)
      have hs : h.natAbs < 10 ^ 42 := by omega
      have ls : l.natAbs < 10 ^ 13 := by omega
      have lb : l.natAbs < 2 ^ 1000 := Nat.lt_trans ls (by decide +kernel)
      have gB : Bt 1000 (gc h l) := Nat.lt_of_le_of_lt (by omega) lb
      walk_at "gm"
      refine ⟨_, _, rfl, by split <;> omega, by omega, lb, ?_⟩
      have ga' : gc (if h < 0 then -h else h) l = gc h l := by
        unfold gc
        rw [show (if h < 0 then -h else h).natAbs = h.natAbs by split <;> omega]
      rw [ga']
      walk_at "gm"
      rw [Int.fdiv_eq_ediv_of_nonneg _ (by omega), Int.fdiv_eq_ediv_of_nonneg _ (by omega)]
      obtain ⟨cop, d0⟩ := low_gcd (a := h) l1
      have ns' : (h / gc h l).natAbs < 10 ^ 42 := Nat.lt_of_le_of_lt (Int.natAbs_ediv_le_natAbs _ _) hs
      have ds' : (l / gc h l).natAbs < 10 ^ 42 := Nat.lt_of_le_of_lt (Int.natAbs_ediv_le_natAbs _ _) (Nat.lt_trans ls (by decide))
      have p42 : 10 ^ 42 < 2 ^ 1000 := by decide +kernel
      have q1 := small_log (b := 1000) (Nat.lt_trans ns' p42) (by decide) (by decide)
      have q2 := small_log (b := 1000) (Nat.lt_trans ds' p42) (by decide) (by decide)
      have fN : (h / gc h l).natAbs < 10 ^ 4300 := Nat.lt_trans ns' (Nat.pow_lt_pow_right (by decide) (by decide))
      generalize hN : h / gc h l = N at *
      generalize hD : l / gc h l = D at *
      refine mark_N (fun σ' G => G = H2 ∧ σ' = [some (.ref a), some (.ref p), some (.int (0 + (i : Nat))), some (.int h), some (.int l), some (.int (gc h l)), some (.int N), some (.int D), some (.str (rtS N D)), u9, u10, none]) ?_ ?_
      · rintro σ' G ⟨rfl, rfl⟩
        have sm : D ≠ 1 → N.natAbs < 2 ^ 1000 ∧ D.natAbs < 2 ^ 1000 := fun _ => ⟨Nat.lt_trans ns' p42, Nat.lt_trans ds' p42⟩
        have zt : TL.tl (rtS N D) = Rx.rtL N D := rfl
        have zl : (rtS N D).length ≤ 87 := by
          rw [TL.len_tl, zt]
          exact Rx.rtL_len (k := 42) (by decide) ns' ds'
        have za : AOk (rtS N D) := fun c hc => by
          have := Rx.rtL_sign (zt ▸ hc)
          omega
        have zi : IsT (rtS N D) := Rx.low_is d0 cop
        walk_at "gm"
        refine rt_make l1 lb fun x H3 nx s3 hx => ?_
        rw [hN, hD] at hx
        obtain ⟨dx, hx'⟩ := id hx
        walk_at "gm"
        refine ⟨x, N, D, rfl, hx, fN, sm, ?_⟩
        walk_at "gm"
        refine go_ndec (fun q => absurd rfl q) (fun _ => ?_)
        walk_at "gm"
        refine ⟨rfl, .str (rtS N D), rfl, .inl ⟨rtS N D, rfl, za, .inl (by omega), fun _ y H4 ny s4 gy => ?_, fun q => absurd zi q⟩⟩
        obtain ⟨n', d', hy, ey, _, _⟩ := gy
        obtain ⟨e1, e2⟩ := Rx.rtL_inj (congrArg TL.tl ey)
        rw [e1, e2] at hy
        obtain ⟨dy, hy'⟩ := id hy
        walk_at "gm"
        refine rt_make l1 lb fun x5 H5 nx5 s5 hx5 => ?_
        rw [hN, hD] at hx5
        obtain ⟨dx5, hx5'⟩ := id hx5
        refine go_nec (s5 _ _ hy') (tyIns (in_Ratio S) hx5') (fr_Ratio_o_Ratio S) ?_
        refine ⟨y, x5, N, D, N, D, rfl, ⟨dy, s5 _ _ hy'⟩, hx5, ?_⟩
        rw [decide_eq_true ⟨rfl, rfl⟩]
        refine ⟨_, rfl, _, rfl, ?_⟩
        have P5 : Pn H5 p c (i * 40 + 8) := pn_sm s5 (pn_sm s4 (pn_sm s3 P2))
        walk_at "gm"
        refine ⟨p, c, _, rtS N D, rfl, P5, by omega, by omega, za, fun b1 H6 ab1 lb1 P6 k6 => ?_⟩
        walk_at "gm"
        refine ⟨p, c, _, rtS N D, rfl, P6, by omega, by omega, za, fun b2 H7 ab2 lb2 P7 k7 => ?_⟩
        walk_at "gm"
        refine ⟨p, c, _, b2, rfl, P7, by omega, by omega, ab2, fun b3 H8 ab3 lb3 P8 k8 => ?_⟩
        walk_at "gm"
        rename_i L H9 nL s9 hL
        have P9 : Pn H9 p c (i * 40 + 17) := pn_sm s9 P8
        have Lp : L ≠ p := by walk_at "ne"
        refine forList (xs := [.str b1, .str b3]) (fun n σ' H' => Pn H' p c (i * 40 + 17) ∧ H' L = some (.lst [.str b1, .str b3]) ∧ ∃ u9, σ' = [some (.ref a), some (.ref p), some (.int (0 + (i : Nat))), some (.int h), some (.int l), some (.int (gc h l)), some (.int N), some (.int D), some (.str (rtS N D)), u9, u10, none]) ⟨P9, hL, u9, rfl⟩ (fun n σ' H' _ ⟨_, e, _⟩ => .of e) ?_ ?_
        · rintro n xv σ' Ha hxv ⟨Pa, La, v9, rfl⟩
          obtain ⟨z, rfl, az, lz⟩ : ∃ z : Str, xv = .str z ∧ AOk z ∧ z.length ≤ 100 := by
            have m := List.mem_of_getElem? hxv
            simp only [List.mem_cons, List.not_mem_nil, or_false] at m
            rcases m with rfl | rfl
            · exact ⟨b1, rfl, ab1, by omega⟩
            · exact ⟨b3, rfl, ab3, by omega⟩
          walk_at "gm"
          refine ⟨.str z, rfl, .inl ⟨z, rfl, az, .inl (by omega), fun ok q Hb sb hq => ?_, fun no q Hb sb hq => ?_⟩⟩
          · walk_at "gm"
            refine ⟨z, rfl, by omega, az, fun b Hc hb sc => ?_⟩
            rw [hb.mpr ok]
            walk_at "gm"
            rename_i r Hd nr sd hr
            refine go_neLL (sd _ _ (sc _ _ hq)) hr az ?_
            refine ⟨_, rfl, ?_⟩
            walk_at "gm"
            exact ⟨pn_sm sd (pn_sm sc (pn_sm sb Pa)), sd _ _ (sc _ _ (sb _ _ La)), _, rfl⟩
          · walk_at "gm"
            refine ⟨z, rfl, by omega, az, fun b Hc hb sc => ?_⟩
            rw [show b = false from Bool.eq_false_iff.mpr fun q => no (hb.mp q)]
            walk_at "gm"
            rename_i r Hd nr sd hr
            refine go_neTT (sd _ _ (sc _ _ hq)) hr ?_
            refine ⟨_, rfl, ?_⟩
            walk_at "gm"
            exact ⟨pn_sm sd (pn_sm sc (pn_sm sb Pa)), sd _ _ (sc _ _ (sb _ _ La)), _, rfl⟩
        · rintro σ' Ha ⟨Pa, La, v9, rfl⟩
          walk_at "gm"
          rename_i f1 F1 nf1 sf1 hf1 f2 F2 nf2 sf2 hf2 f3 F3 nf3 sf3 hf3
          refine rt_make l1 lb fun x6 F4 nx6 s6 hx6 => ?_
          obtain ⟨dx6, hx6'⟩ := id hx6
          walk_at "gm"
          rename_i g G ng sg hg v Hv hv Pv kv
          have z1 : Hv f1 = some (HO.lst [.str (rtS N D)]) := by walk_at "hp"
          have z2 : Hv f2 = some (HO.tup [.str (rtS N D)]) := by walk_at "hp"
          have z3 : Hv f3 = some (HO.dK []) := by walk_at "hp"
          have z6 : Hv x6 = some (.ins (ga K "Ratio") dx6 [("top", .int (h / gc h l)), ("bottom", .int (l / gc h l))]) := by walk_at "hp"
          have Pz : Pn Hv p c (i * 40 + 40) := Pn.mono (by walk_at "pen") (by omega)
          clear hg hf1 hf2 hf3
          have no : NoStr K Hv v ∨ ∃ z : Str, v = .str z ∧ AOk z ∧ (z.length ≤ 300 ∨ (47 ∉ TL.tl z ∧ z.length ≤ 4000)) ∧ ¬ IsT z := by
            simp only [List.mem_cons, List.not_mem_nil, or_false] at hv
            rcases hv with rfl | rfl | rfl | rfl | rfl | rfl | rfl | rfl | rfl | rfl | rfl
            · exact .inl (odd_nostr .non (by intro z q; cases q))
            · exact .inl (odd_nostr (.int _) (by intro z q; cases q))
            · exact .inl (odd_nostr (.bl _) (by intro z q; cases q))
            · exact .inl (odd_nostr (.lst z1) (by intro z q; cases q))
            · exact .inl (odd_nostr (.tup z2) (by intro z q; cases q))
            · exact .inl (odd_nostr (.dK z3) (by intro z q; cases q))
            · exact .inr ⟨_, rfl, (lit_ok (by decide +kernel)).1, (lit_ok (by decide +kernel)).2, isT_no (by decide +kernel)⟩
            · exact .inr ⟨_, rfl, (lit_ok (by decide +kernel)).1, (lit_ok (by decide +kernel)).2, isT_no (by decide +kernel)⟩
            · exact .inr ⟨_, rfl, (lit_ok (by decide +kernel)).1, (lit_ok (by decide +kernel)).2, isT_no (by decide +kernel)⟩
            · exact .inl ⟨_, tyIns (in_Ratio S) z6, kit_o_Ratio__str__false S⟩
            · exact .inl (odd_nostr (.int _) (by intro z q; cases q))
          refine heard_no no fun q Hq sq hq => ?_
          walk_at "gm"
          rename_i r Hr nr sr hr
          refine go_neTT (sr _ _ hq) hr ?_
          refine ⟨_, rfl, ?_⟩
          walk_at "gm"
          exact ⟨Pn.mono (pn_sm sr (pn_sm sq Pz)) (by omega), _, _, _, _, _, _, _, _, _, rfl⟩
      · intro N' cont
        walk_at "gm"
        have fit : ∀ w : Str, TL.tl w = Rx.rtL N D → w = rtS N D := fun w e => TL.ext_tl e
        have l1' : (Str.ofString (toString N)).length ≤ 1921 := PyProof.Rows.int_text_len_1921 q1
        have l2' : (Str.ofString (toString D)).length ≤ 1921 := PyProof.Rows.int_text_len_1921 q2
        refine go_dec (fun z => ?_) (fun z => ?_)
        · walk_at "gm"
          refine ⟨N, rfl, q1, ?_⟩
          walk_at "gm"
          rw [fit (Str.ofString (toString N)) (by rw [Rx.tl_str]; unfold Rx.rtL; rw [if_pos z])]
          exact cont _ _ ⟨rfl, rfl⟩
        · walk_at "gm"
          refine ⟨N, rfl, q1, ?_⟩
          walk_at "gm"
          refine go_adds (by show _ + 1 ≤ _; omega) ?_
          walk_at "gm"
          refine ⟨D, rfl, q2, ?_⟩
          walk_at "gm"
          refine go_adds (by rw [PySem.Str.length_append]; show _ + 1 + _ ≤ _; omega) ?_
          walk_at "gm"
          rw [fit ((Str.ofString (toString N) ++ "/") ++ Str.ofString (toString D)) (by
            rw [TL.tl_append, TL.tl_append, Rx.tl_str, Rx.tl_str, show TL.tl "/" = [47] by decide +kernel]
            unfold Rx.rtL
            rw [if_neg z, List.append_assoc]
            rfl)]
          exact cont _ _ ⟨rfl, rfl⟩
    · rintro σ H1 ⟨P1, u2, u3, u4, u5, u6, u7, u8, u9, u10, rfl⟩
      walk_at "gm"
      refine go_repS ⟨by decide, by decide⟩ (by decide +kernel) ?_
      have o1 := tl_repS (w := "1") (c := 49) (by decide +kernel) (Int.toNat 4000)
      obtain ⟨ones, eo⟩ : ∃ w, repS "1" (Int.toNat 4000) = w := ⟨_, rfl⟩
      rw [eo] at o1 ⊢
      have o2 : TL.tl ones = List.replicate 4000 49 := o1
      obtain ⟨o3, o4⟩ := rep_ok o2 ⟨by decide, by decide⟩ (by decide)
      walk_at "gm"
      refine ⟨_, rfl, .inl ⟨ones, rfl, o3, o4, fun _ q H2 s2 hq => ?_, fun n => absurd (ones_is o2) n⟩⟩
      walk_at "gm"
      refine go_repS ⟨by decide, by decide⟩ (by decide +kernel) ?_
      rw [eo]
      walk_at "gm"
      rename_i r1 H3 n3 s3 h3
      refine go_neLL (s3 _ _ hq) h3 o3 ?_
      refine ⟨_, rfl, ?_⟩
      walk_at "gm"
      refine go_repS ⟨by decide, by decide⟩ (by decide +kernel) ?_
      have m1 := tl_repS (w := "0") (c := 48) (by decide +kernel) (Int.toNat 4000)
      obtain ⟨nons, en⟩ : ∃ w, repS "0" (Int.toNat 4000) = w := ⟨_, rfl⟩
      rw [en] at m1 ⊢
      have m2 : TL.tl nons = List.replicate 4000 48 := m1
      obtain ⟨m3, m4⟩ := rep_ok m2 ⟨by decide, by decide⟩ (by decide)
      walk_at "gm"
      refine heard_no (.inr ⟨nons, rfl, m3, m4, noughts_not m2⟩) fun q4 H4 s4 hq4 => ?_
      walk_at "gm"
      rename_i r5 H5 n5 s5 h5
      refine go_neTT (s5 _ _ hq4) h5 ?_
      refine ⟨_, rfl, ?_⟩
      walk_at "gm"
      rename_i L6 H6 n6 s6 h6
      have lits : ∀ v ∈ ([.str "6/4", .str "3/1", .str "0/5", .str "-0", .str "-3/07", .str "3/-7", .str "+3", .str "1/0", .str "1//2", .str " 1"] : List V), ∃ z : Str, v = .str z ∧ AOk z ∧ (z.length ≤ 300 ∨ (47 ∉ TL.tl z ∧ z.length ≤ 4000)) ∧ ¬ IsT z := fun v hv => by
        obtain ⟨w, hw, rfl⟩ := List.mem_map.mp (show v ∈ (["6/4", "3/1", "0/5", "-0", "-3/07", "3/-7", "+3", "1/0", "1//2", " 1"] : List Str).map V.str from hv)
        have all : ∀ w ∈ (["6/4", "3/1", "0/5", "-0", "-3/07", "3/-7", "+3", "1/0", "1//2", " 1"] : List Str), (litOk w && !Rx.isB (TL.tl w)) = true := by decide +kernel
        obtain ⟨a, b⟩ := Bool.and_eq_true_iff.mp (all w hw)
        exact ⟨w, rfl, (lit_ok a).1, (lit_ok a).2, isT_no (by simpa using b)⟩
      refine lcListG (xs := [.str "6/4", .str "3/1", .str "0/5", .str "-0", .str "-3/07", .str "3/-7", .str "+3", .str "1/0", .str "1//2", .str " 1"]) (fun D n acc H' => Same H6 H' ∧ ∀ v ∈ acc, ∃ q, v = .ref q ∧ H' q = some (.tup [.int 0, .int 0])) (Nat.le_of_ble_eq_true rfl) (fun _ => rfl) (fun D H' nD s hD => ⟨s, fun v hv => by cases hv⟩) (fun D n acc H' nD ⟨s, _⟩ => .of (s _ _ h6)) (fun D n x acc H' Q' hx nD al ⟨s, ac⟩ hD kk => ?_) (fun D acc H' nD al ⟨s, ac⟩ hD => ?_)
      · dsimp only [List.map, wipe, List.set]
        walk_at "gm"
        refine heard_no (.inr (lits x (List.mem_of_getElem? hx))) fun q7 H7 s7 hq7 => ?_
        refine kk (.ref q7) H7 (s7 _ _ hD) fun H8 k8 hD8 => ⟨fun o v ho => k8 _ _ (s7 _ _ (s _ _ ho)) fun z => ?_, fun v hv => ?_⟩
        · rw [z, nD] at ho
          cases ho
        · have get : ∀ q, H7 q = some (.tup [.int 0, .int 0]) → H8 q = some (.tup [.int 0, .int 0]) := fun q h => k8 _ _ h fun z => by
            rw [z, s7 _ _ hD] at h
            cases h
          rcases List.mem_append.mp hv with hv | hv
          · obtain ⟨q, rfl, h⟩ := ac v hv
            exact ⟨q, rfl, get q (s7 _ _ h)⟩
          · rw [List.mem_singleton.mp hv]
            exact ⟨q7, rfl, get q7 hq7⟩
      · walk_at "gm"
        rename_i t8 G8 m8 s8 h8 l9 G9 m9 s9 h9 l10 G10 m10 s10 h10
        have acG : ∀ v ∈ acc, ∃ q, v = .ref q ∧ G10 q = some (.tup [.int 0, .int 0]) := fun v hv => by
          obtain ⟨q, rfl, h⟩ := ac v hv
          exact ⟨q, rfl, s10 _ _ (s9 _ _ (s8 _ _ h))⟩
        have ten : acc.length = 10 := al
        have ht8 : G10 t8 = some (.tup [.int 0, .int 0]) := s10 _ _ (s9 _ _ h8)
        have oth : ∀ v ∈ ([.ref t8, .ref t8, .ref t8, .ref t8, .ref t8, .ref t8, .ref t8, .ref t8, .ref t8, .ref t8] : List V), ∃ q, v = .ref q ∧ G10 q = some (.tup [.int 0, .int 0]) := fun v hv => ⟨t8, by simpa using hv, ht8⟩
        refine ⟨.list (List.replicate 10 t00), .list (List.replicate 10 t00), .lst (.of (s10 _ _ (s9 _ _ (s8 _ _ hD)))) (by rw [← all00 ten]; exact dp00 acG), .lst (.of h10) (dp00 oth), by decide +kernel, by decide +kernel, ?_⟩
        rw [show PyData.eqv (.list (List.replicate 10 t00)) (.list (List.replicate 10 t00)) = true by decide +kernel]
        refine ⟨_, rfl, ?_⟩
        walk_at "gm"
        refine ⟨_, rfl, .inl ⟨"-12/35", rfl, (lit_ok (by decide +kernel)).1, (lit_ok (by decide +kernel)).2, fun _ q11 G11 s11 h11 => ?_, fun n => absurd (isT_iff.mpr (by decide +kernel)) n⟩⟩
        walk_at "gm"
        rename_i l12 G12 m12 s12 h12
        refine go_eqLL (s12 _ _ h11) h12 (lit_ok (by decide +kernel)).1 ?_
        exact k G12
end
end K05
open PySem PySem.W PySem.Calls PyProof.Rows
theorem PySem.Challenge.cw_creditturns_k05_ratios_written_and_read_holds : PySem.Challenge.rw_creditturns_k05_ratios_written_and_read.Holds := by
  w_on; o_law
  refine HandSHeadRun.head_imp (r := OpenLaw.row PySem.Challenge.rw_creditturns_k05_ratios_written_and_read) (q := K05.q) (H := K05.hk) (ob := K05.ob) (M := 20000) (loose := K05.loose) (d := HandSHeadRun.topDef (OpenLaw.row PySem.Challenge.rw_creditturns_k05_ratios_written_and_read).prog 33) (kwd := []) K05.ob_eq
    K05.run (by kernel_rfl) (by kernel_rfl) (by kernel_rfl) (by rfl) (by first | assumption | decide +kernel) (by decide +kernel) ⟨rfl, rfl, rfl, rfl, rfl, by decide +kernel⟩ ?hw ?hc
  case hw => w_witness2
  case hc =>
    refine CT.walk_ofGE (l := PySem.Challenge.rw_creditturns_k05_ratios_written_and_read) (n := 63) (k := 6) (x := "_law_script") (CX := fun _ => L2.CX0) rfl (by decide) (by kernel_rfl) ⟨rfl, by decide, by decide⟩ ?F (fun _ _ _ _ _ z => z)
    intro w mg fa h Y G hmg0
    obtain ⟨K, KX, c⟩ := Y
    have S : CT.HD K05.sys K mg := CT.HD.of KX G c
    have hmg : mg ("law" : PySem.Str) = some (.ref fa) := by
      have e : (HandSHeadRun.topDef (OpenLaw.row PySem.Challenge.rw_creditturns_k05_ratios_written_and_read).prog 33).name = ("law" : PySem.Str) := by kernel_rfl
      rw [← e]
      exact hmg0
    have e := hmg.symm.trans (K05.g_law S)
    cases e
    obtain ⟨t1, t2, t3⟩ := CT.tabs_of KX c
    refine ⟨K, KX, CT.fdAt K (He.ga K "law"), _, K05.spLaw K, t1, t2, t3, fun s v => (L2.FunD.bindsA (ps := ["_law_script"]) (K05.d_law S) (fun _ _ _ _ _ _ us hl => match us, hl with | [_], _ => rfl)) s [v] rfl, fun H a ns hl _ hH hS => ⟨a, ns, rfl, hS, fun _ => rfl⟩, fun base _ _ TB => (K05.law_ok S)⟩
