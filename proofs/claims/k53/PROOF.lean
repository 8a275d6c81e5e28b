import PyProof.Rows.All
import Wide.All
import OpenK.AllK
import Wide.FinOn
import HandS.ForMost
import HandS.ForExc
import HandS.IsInst
import HandS.ExcInit
import HandS.Lambda
import HandS.Property
import HandS.ClsMeth
import HandS.Wide
import HandS.WideMore
import HandS.Style
import HandS.Flow
import HandS.OwnEq
import HandS.ExcIs
import HandS.ExcField
import HandS.ExcValue
import HandS.MakeKw
import HandS.Defaults
import HandS.Star
import HandS.EndTab
import HandS.Gcd
import HandS.StrMore
import HandS.StrSplit
import HandS.FStr
import HandS.Deep
import HandS.DeepEq
import HandS.SetKeys
import HandS.DictComp
import HandS.Conv
import HandS.Codes
import HandS.Zip
import HandS.SortInts
import HandS.TupAny
import HandS.Evl
import HandS.Steps
import KE.KExcIs
import KE.KOpsOwn
import HandS.Head3
import HandS.HeadHook4
import HandS.HeadWalk
import PySem.Challenge.RW_creditturns_k53_buckets_compared
set_option Elab.async false
set_option linter.all false
set_option maxRecDepth 100000
set_option maxHeartbeats 4000000
namespace CT
open PySem PySem.Spec PyProof.Rows L2
abbrev St := L2.St

/-! ### caught exceptions that outlive their clause -/
/-- a caught exception stands at a: its class, the address of its own dict -/
def ExK (cls : Value) (d : Option Addr) (a : Addr) : HO :=
  .ext fun h => ∃ (oe : Obj) (vs : Array Value), h.get? a = some oe ∧ Zc cls d oe ∧ oe.data = .fields vs
theorem exK_ok {P : Program} {w : World} {H : Hp} {h : Heap} {a : Addr} {cls : Value} {d : Option Addr} {oe : Obj} {vs : Array Value}
    (e : h.get? a = some oe) (z : Zc cls d oe) (dd : oe.data = .fields vs) : ObjOk P w H h a (ExK cls d a) :=
  ⟨⟨oe, vs, e, z, dd⟩, ⟨oe, e⟩, fun _ _ ⟨o, v, q, r⟩ k => ⟨o, v, k o q, r⟩⟩
theorem exK_at {P : Program} {w : World} {H : Hp} {h : Heap} {a : Addr} {cls : Value} {d : Option Addr} (hok : HOk P w H h) (e : H a = some (ExK cls d a)) :
    ∃ (oe : Obj) (vs : Array Value), h.get? a = some oe ∧ Zc cls d oe ∧ oe.data = .fields vs := by
  have x := hok a _ e
  have x' : ObjOk P w H h a (.ext fun h => ∃ (oe : Obj) (vs : Array Value), h.get? a = some oe ∧ Zc cls d oe ∧ oe.data = .fields vs) := x
  exact x'.1

/-- an object that is there, made since the entry, is tracked from now on -/
theorem track {X : Cx} {pins : List (Addr × Obj)} {σ : St} {H : Hp} {s : Shared} {a : Addr} {o : HO} (I : Inv X pins σ H s) (hn : H a = none)
    (n0 : X.s_0.heap.get? a = none) (nL : a ≠ X.env.locals) (np : ∀ p ∈ X.pn ++ pins, p.1 ≠ a) (nc : ∀ x c, X.env.cells.lookup x = some c → c ≠ a)
    (new : ObjOk X.prog X.w (upd H a o) s.heap a o) : Inv X pins σ (upd H a o) s := by
  have ne0 : ∀ b u, X.s_0.heap.get? b = some u → b ≠ a := fun b u e z => by
    rw [z, n0] at e
    cases e
  refine ⟨I.ok, I.os, I.bare, ⟨I.base.keep, I.base.slot, fun b u e n hx => ?_, I.base.there, fun b xs e => ?_, fun b u v e => ?_, fun b ps e => ?_⟩, I.loc, I.cell, ?_, fun x c e => ?_, fun p hp => ?_, I.hok.laidN (fun _ _ q => q) hn new, I.len⟩
  · exact (upd_ne (ne0 b u e)).trans (I.base.free b u e n hx)
  · have q := I.base.tups b xs e
    rw [upd_ne (ne_of_none q hn)]
    exact q
  · have q := I.base.frzs b u v e
    rw [upd_ne (ne_of_none q hn)]
    exact q
  · obtain ⟨m, q⟩ := I.base.tbls b ps e
    exact ⟨m, by rw [upd_ne (ne_of_none q hn)]; exact q⟩
  · rw [upd_ne (Ne.symm nL)]
    exact I.free
  · rw [upd_ne (nc x c e)]
    exact I.freeC x c e
  · obtain ⟨h1, h2, h3⟩ := I.pin p hp
    exact ⟨h1, by rw [upd_ne (np p hp)]; exact h2, h3⟩

/-- what the clause 'except x as n' wishes, where the exception stays tracked behind the suite -/
def wKeep (K : PySem.W.Frag) (c : Value) (i : Nat) (ts : Addr → Value → Option Addr → TS) (Wout : WX) (D : Ends) : WX := fun cls d σ H =>
  ∃ b, PySem.W.exmOne K cls c = some b ∧
    (b = true → ∀ a, H a = none → ts a cls d
      { nx := fun σ' H' => D.nx (σ'.set i none) (upd H' a (ExK cls d a)), rt := fun v H' => D.rt v (upd H' a (ExK cls d a)),
        bk := fun σ' H' => D.bk (σ'.set i none) (upd H' a (ExK cls d a)), ct := fun σ' H' => D.ct (σ'.set i none) (upd H' a (ExK cls d a)) }
      (σ.set i (some (.ref a))) H) ∧
    (b = false → Wout cls d σ H)

/-- an address that no frame, pin, cell or older object has -/
structure Apart (X : Cx) (pins : List (Addr × Obj)) (a : Addr) : Prop where
  loc : a ≠ X.env.locals
  fra : a ∉ X.fs
  old : X.s_0.heap.get? a = none
  pin : ∀ p ∈ X.pn ++ pins, p.1 ≠ a
  cel : ∀ y k, X.env.cells.lookup y = some k → k ≠ a

/-- the exception a (class cls, dict d) has come down before a clause of X; g: the state without it, B: its ground -/
structure Fallen (X : Cx) (B : Heap) (g : Shared) (pins : List (Addr × Obj)) (σ : St) (H : Hp) (a : Addr) (cls : Value) (d : Option Addr) (s : Shared) : Prop where
  frm : X.stack = X.env :: X.outer
  loc : X.env.frame = some X.env.locals
  inv : Inv X pins σ H g
  gnd : ∀ b o, g.heap.get? b = some o → b ∉ frs X.stack → B.get? b = some o
  upt : g.heap.UpToSlots s.heap
  oss : s.os = g.os
  gns : AllBare s.gens
  fly : HandSPX.FlyingZ B X.stack a (Zc cls d) s.heap
  new : H a = none
namespace Fallen
variable {X : Cx} {B : Heap} {g s : Shared} {pins : List (Addr × Obj)} {σ : St} {H : Hp} {a : Addr} {cls : Value} {d : Option Addr}
theorem now (F : Fallen X B g pins σ H a cls d s) : Inv X pins σ H s := F.inv.landed F.gnd F.fly.1 F.upt F.oss F.gns
theorem to (F : Fallen X B g pins σ H a cls d s) {h : Heap} (fly : HandSPX.FlyingZ B X.stack a (Zc cls d) h) (u : s.heap.UpToSlots h) :
    Fallen X B g pins σ H a cls d { s with heap := h } :=
  { F with upt := F.upt.trans u, oss := F.oss, gns := F.gns, fly := fly }
/-- frames hold no fields -/
theorem out (F : Fallen X B g pins σ H a cls d s) : a ∉ frs X.stack := by
  intro inn
  obtain ⟨o, vs, there, -, dd⟩ := F.fly.there
  rcases F.fly.2.2.1.mem inn with ⟨_, q, there', no⟩
  obtain rfl : o = q := Option.some.inj (there.symm.trans there')
  exact no vs dd
/-- what stands without the exception stands elsewhere -/
theorem els (F : Fallen X B g pins σ H a cls d s) {b : Addr} {o : Obj} (e : g.heap.get? b = some o) : b ≠ a := by
  rintro rfl
  have q := (F.gnd b o e F.out).symm.trans F.fly.2.1
  exact nomatch q
theorem apart (F : Fallen X B g pins σ H a cls d s) (hex : X.ex = []) : Apart X pins a where
  loc := by
    rintro rfl
    refine F.out ?_
    rw [F.frm]
    exact List.mem_filterMap.mpr ⟨X.env, List.mem_cons.mpr (.inl rfl), F.loc⟩
  fra := fun inn => by
    rcases List.mem_filterMap.mp inn with ⟨en, at', q⟩
    refine F.out ?_
    rw [F.frm]
    exact List.mem_filterMap.mpr ⟨en, List.mem_cons.mpr (.inr at'), q⟩
  old := Option.eq_none_iff_forall_ne_some.mpr fun o e => by
    obtain ⟨o', q⟩ := F.inv.base.there a o e (hex ▸ List.not_mem_nil)
    exact F.els q rfl
  pin := fun p at' => F.els (F.inv.pin p at').1
  cel := fun y k e => by
    obtain ⟨_, _, q, _⟩ := F.inv.cell y k e
    exact F.els q
/-- the suite of the clause begins -/
theorem suit (F : Fallen X B g pins σ H a cls d s) (ap : Apart X pins a) : ∃ oe vs, s.heap.get? a = some oe ∧ Zc cls d oe ∧ oe.data = .fields vs ∧
    Inv (X.suite a ((a, oe) :: (X.pn ++ pins))) [] σ H s := by
  obtain ⟨oe, vs, e, z, dd⟩ := F.fly.there
  exact ⟨oe, vs, e, z, dd, F.now.suite e dd F.new ap.loc ap.fra⟩
/-- the clause's class is read, and the exception is held against it -/
theorem asked (F : Fallen X B g pins σ H a cls d s) (ap : Apart X pins a) {x : Str} {c : Value} {np : Pos} {yes : Bool} {Q : Bool → Shared → Prop} {E : Value → Shared → Prop}
    (hc : Names X x c) (m : PySem.W.exmOne X.K cls c = some yes) (q : Q yes s) :
    wpAny (model X.prog X.w) (X.A.mark (some (.ref a))) (eval (.Name x np) X.env) (fun k s1 => wpAny (model X.prog X.w) (X.A.mark (some (.ref a))) (excMatches (.ref a) k) Q E s1) E s := by
  obtain ⟨oe, vs, e, z, _, S⟩ := F.suit ap
  have kind : PySem.W.Looks (model X.prog X.w) s.heap (typeOf (.ref a)) cls := fun _ _ _ _ k r => wpAny_typeOf_ref (k _ _ e) (z.1.symm ▸ r)
  have last := (PySem.W.exm_one (M := model X.prog X.w) F.now.kIn kind m).here (A := X.A.mark (some (.ref a))) (E := E) q
  rcases hc with ⟨hg, nd, own | ⟨own, blt, nn⟩⟩
  · exact ld_glob (X := X.suite a ((a, oe) :: (X.pn ++ pins))) S hg own last nd
  · exact ld_blt (X := X.suite a ((a, oe) :: (X.pn ++ pins))) S hg own blt last nn nd
/-- no clause takes it: on it flies -/
theorem onward (F : Fallen X B g pins σ H a cls d s) {Wout : WX} {Q : Flow → Shared → Prop} (tk : Takes X Wout) (w : Wout cls d σ H) :
    wpAny (model X.prog X.w) X.A (handleBy (.ref a) X.env []) Q X.xe s := by
  have rise : wpAny (model X.prog X.w) X.A (setFlight (.ref a) X.env.frame) (fun _ s1 => wpAny (model X.prog X.w) X.A (throw (.ref a) : Sem Flow) Q X.xe s1) X.xe s := by
    rw [F.loc]
    exact HandSPX.setFlight_upZ F.fly fun h1 held u1 => wpAny_throw (tk _ _
      ⟨a, B, g, pins, σ, H, cls, d, rfl, F.inv, F.gnd, F.upt.trans u1, .inr (.inr held), F.new, F.oss, F.gns, w⟩)
  obtain ⟨oe, vs, T, _, _, e, _, dd, at1, _⟩ := F.fly.2.2.2
  refine wpAny_handleBy_nil ?_
  unfold PySem.passOn
  have some1 : ((Value.ref T == Value.none) = true) = False := by simp
  refine wpAny_bind (wpAny_field e dd at1 ?_)
  simp only [some1, if_false]
  first
    | exact wpAny_bind rise
    | exact wpAny_bind (wpAny_pure (wpAny_bind rise))
end Fallen

section
variable {X : Cx} {x n : Str} {c : Value} {i : Nat} {body suite : List Stmt} {b0 : Stmt} {np pos pos' : Pos} {tb : WX → TS}
  {ts : Addr → Value → Option Addr → TS} {Wout : WX}
theorem ps_try_keep (hs : X.stack = X.env :: X.outer) (hf : X.env.frame = some X.env.locals) (hex : X.ex = []) (hN : X.N.Nodup) (hi : X.N[i]? = some n)
    (hln : X.env.kindOf n = some .local) (hc : Names X x c) (tk : Takes X Wout)
    (hb : ∀ (W : WX) (pn : List (Addr × Obj)) (xe : Value → Shared → Prop), Takes (X.tr pn xe) W →
      PassesOwn (model X.prog X.w) X.A X.env xe → PSs (X.tr pn xe) body (tb W))
    (hsu : ∀ (a : Addr) (oe : Obj) (cls : Value) (d : Option Addr) (pn : List (Addr × Obj)), Zc cls d oe → (∃ vs, oe.data = .fields vs) →
      PSs (X.suite a ((a, oe) :: pn)) (b0 :: suite) (ts a cls d)) :
    PS X (.Try body [.ExceptHandler (some (.Name x np)) (some n) (b0 :: suite) pos'] [] [] pos) (fun D σ H => tb (wKeep X.K c i ts Wout D) D σ H) := by
  constructor
  intro pins s0 σ0 H0 D I0 begin0
  -- the clause, before an exception that has come down
  have clause : ∀ {B g σ H a cls d s}, Fallen X B g pins σ H a cls d s → wKeep X.K c i ts Wout D cls d σ H →
      wpAny (model X.prog X.w) X.A (handleBy (.ref a) X.env [.ExceptHandler (some (.Name x np)) (some n) (b0 :: suite) pos']) (SP X pins D) X.xe s := by
    intro B g σ H a cls d s F ⟨yes, mt, isIt, isnt⟩
    have ap := F.apart hex
    refine wpAny_handleBy_cons (codeAny_handlers_test (F.asked ap hc mt ?_)) nofun
    cases yes
    · exact F.onward tk (isnt rfl)
    refine codeAny_handlers_suite_as (HandSPX.lands_againZ F.fly fun h1 fly1 u1 => ?_)
    obtain ⟨oe, vs, _, z, dd, S⟩ := (F.to fly1 u1).suit ap
    refine store_ok (X := X.suite a ((a, oe) :: (X.pn ++ pins))) (v := .ref a) S hN hi (.inl hln) rfl (fun s2 S2 => ?_) (.inr hln)
    -- behind the suite: the name goes, the exception is tracked
    have close : ∀ {σ' H' s'} {Q : Shared → Prop}, Inv (X.suite a ((a, oe) :: (X.pn ++ pins))) [] σ' H' s' →
        (∀ s'', Inv X pins (σ'.set i none) (upd H' a (ExK cls d a)) s'' → Q s'') →
        wpAny (model X.prog X.w) X.A (do bindName X.env n .none; unbindBehindTheSuite X.env n pos') (fun _ s'' => Q s'') X.xe s' := by
      intro σ' H' s' Q S' q
      have p0 := S'.pin (a, oe) (List.mem_append.mpr (.inl (List.mem_cons.mpr (.inl rfl))))
      exact gone_ok (track (S'.unsuite I0.ok) p0.2.1 ap.old ap.loc ap.pin ap.cel (exK_ok p0.1 z dd)) hN hi hln q
    refine wpAny_mono ((hsu a oe cls d _ z ⟨vs, dd⟩).run [] s2 _ H _ S2 (isIt rfl a F.new)) (fun f s3 end3 => ?_) (fun _ _ no => no.elim)
    cases f <;> first
      | (obtain ⟨_, _, S3, q⟩ := end3; exact close S3 fun _ J => ⟨_, _, J, q⟩)
      | (obtain ⟨_, _, _, S3, r, q⟩ := end3; exact close S3 fun _ J => ⟨_, _, _, J, r, q⟩)
  -- an exception of the body comes down
  have caught : Takes (X.tr (X.pn ++ pins) fun u s => wpAny (model X.prog X.w) X.A (noteFrame u X.env) (fun _ s1 => wpAny (model X.prog X.w) X.A (setFlight u none) (fun _ s2 =>
      wpAny (model X.prog X.w) X.A (handleBy u X.env [.ExceptHandler (some (.Name x np)) (some n) (b0 :: suite) pos']) (SP X pins D) X.xe s2) X.xe s1) X.xe s)
      (wKeep X.K c i ts Wout D) := by
    rintro u s ⟨a, B, g, pins', σ, H, cls, d, rfl, J, gnd, u0, sky, new, oss, gns, w⟩
    have sky1 : Sky B (X.env :: X.outer) a (Zc cls d) X.env.locals s.heap := hs ▸ sky
    refine Sky.land (A := X.A) Zc.steady (I0.ok.frames.trans (congrArg some hs)) hf sky1 fun h1 fly1 u1 => ?_
    exact clause { frm := hs, loc := hf, inv := J.ofTry I0.ok, gnd := gnd, upt := u0.trans u1, oss := oss, gns := gns, fly := hs ▸ fly1, new := new } w
  refine wpAny_Try_except (wpAny_mono ((hb _ _ _ caught PassesOwn.looking).run [] s0 σ0 H0 D (I0.toTry _) begin0) (fun f s1 end1 => ?_) fun _ _ q => q)
  cases f with
  | next => exact end1.elim fun σ1 h => h.elim fun H1 ⟨J, q⟩ => wpAny_execs_nil ⟨σ1, H1, J.ofTry I0.ok, q⟩
  | brk => exact end1.elim fun σ1 h => h.elim fun H1 ⟨J, q⟩ => ⟨σ1, H1, J.ofTry I0.ok, q⟩
  | cont => exact end1.elim fun σ1 h => h.elim fun H1 ⟨J, q⟩ => ⟨σ1, H1, J.ofTry I0.ok, q⟩
  | ret u => exact end1.elim fun v h => h.elim fun σ1 h => h.elim fun H1 ⟨J, r, q⟩ => ⟨v, σ1, H1, J.ofTry I0.ok, r, q⟩
end

/-! ### what is read off a caught exception -/
/-- e.f -/
def tXk (K : PySem.W.Frag) (f : Str) (te : TE) : TE := fun σ H Q => te σ H fun x H1 => ∃ (a C dd : Addr) (fs : List (Str × V)) (v : V),
  x = .ref a ∧ H1 a = some (ExK (.ref C) (some dd) a) ∧ XfC K C ∧ PySem.W.findIn K (.ref C) f = some none ∧ H1 dd = some (.xd fs) ∧ fs.lookup f = some v ∧ Q v H1
theorem pe_xk {X : Cx} {e : Expr} {te : TE} {pos : Pos} {f : Str} (he : PE X e te) (hb : attributeBase e f X.env (eval e X.env) = eval e X.env := by rfl) :
    PE X (.Attribute e f pos) (tXk X.K f te) := by
  refine ⟨fun pins s σ H Q I h => ?_⟩
  refine attr_of hb (thn (he.run pins s σ H _ I h) fun u s1 hh => ?_)
  obtain ⟨x, H1, I1, rx, a, C, dd, fs, v, ex, ea, T, hno, ed, l, q⟩ := hh
  subst ex
  obtain rfl : u = Value.ref a := rx
  obtain ⟨oe, vs, ha, hz, hd⟩ := exK_at I1.hok ea
  have hx : ObjOk X.prog X.w H1 s1.heap dd (.xd fs) := I1.hok dd _ ed
  obtain ⟨mA, hns, hr⟩ := hx
  obtain ⟨od, ho, hl⟩ := lookIn_ns hns
  obtain ⟨u, hu, ru⟩ := RelO.some_of (v := v) (o := mA f) (by rw [← l]; exact hr f)
  have J : PySem.W.InstAt s1.heap a oe C (some od) := ⟨ha, hz.1, by unfold PySem.W.notCls; rw [hd] <;> rfl, by rw [hz.2]; exact ho⟩
  exact HandSPX.exc_get I1.kIn J T.ga T.gg T.exC (PySem.W.findObj_own T.hdC hno rfl (by rw [hl, hu])) (handed_of ru) ⟨v, H1, I1.tok _, ru, q⟩
/-- isinstance(e, c) -/
def rIsK (K : PySem.W.Frag) : List V → Hp → VK → Prop := fun xs H Q => ∃ (a D : Addr) (d : Option Addr) (c : V) (cv : Value) (b : Bool),
  xs = [.ref a, c] ∧ H a = some (ExK (.ref D) d a) ∧ (∀ dd, d = some dd → ∃ fs, H dd = some (.xd fs)) ∧ ExcC K D ∧ ClsV c cv ∧
  PySem.W.kitOne K (.ref D) cv = some b ∧ Q (.bl b) H
theorem call_isX {X : Cx} : CallR X (.builtin "isinstance") (rIsK X.K) := by
  intro pins s σ H xs us Q I r h
  obtain ⟨a, D, d, c, cv, b, rfl, ea, hd, C, k, e, q⟩ := h
  obtain ⟨u1, u2, rfl, r1, r2⟩ := vals2 r
  have e2 := k.eq r2
  subst e2
  cases (show u1 = Value.ref a from r1)
  obtain ⟨oe, vs, ha, hz, hv⟩ := exK_at I.hok ea
  have hcl : (PySem.W.clsIn X.K D).isSome = true := by
    obtain ⟨cd, hc, _⟩ := PySem.W.any_some C.hd
    rw [hc]
    rfl
  have J : ∃ od, PySem.W.InstAt s.heap a oe D od := by
    cases d with
    | none => exact ⟨none, ha, hz.1, by unfold PySem.W.notCls; rw [hv] <;> rfl, by rw [hz.2]; trivial⟩
    | some dd =>
      obtain ⟨fs, ed⟩ := hd dd rfl
      obtain ⟨mA, hns, _⟩ := (show ObjOk X.prog X.w H s.heap dd (.xd fs) from I.hok dd _ ed)
      obtain ⟨od, ho, _⟩ := lookIn_ns hns
      exact ⟨some od, ha, hz.1, by unfold PySem.W.notCls; rw [hv] <;> rfl, by rw [hz.2]; exact ho⟩
  obtain ⟨od, J⟩ := J
  exact PySem.W.kia_one (PySem.W.kitx_exc hcl C.hg C.hk C.hs C.ha C.hn C.ht C.hm) I.kIn J e (fun z => nomatch z) fun tk => ⟨.bl b, H, I.kept (t' := tk) fun _ _ z => z, rfl, q⟩
end CT
namespace CT
open PySem PySem.Spec PyProof.Rows L2

/-! ### comparisons by a class's own methods, the other operand any value of a known kind -/
theorem cmp_back {X : Cx} {pins : List (Addr × Obj)} {σ : St} {Q : VK} {v : V} {u : Value} {s' : Shared} (r : RelV v u) (h : EP X pins σ Q u s') :
    PySem.W.CmpBack (EP X pins σ Q) u s' := by
  cases u with
  | notImplemented =>
    cases v <;> first
      | (have z : Value.notImplemented = _ := r; cases z)
      | (obtain ⟨t, z⟩ := r; cases z)
  | _ => exact h
def rOwnC (K : PySem.W.Frag) (C : Addr) (sp : Sp) (E : XK) : R2 := fun x y H Q => ∃ a dx fs t, x = .ref a ∧ H a = some (.ins C dx fs) ∧ TyX K H y t ∧
  PySem.W.notFirst K C t = true ∧ sp [x, y] H Q E
section
variable {X : Cx} {CX : CXT} {n : Nat} {C g : Addr} {fd : FuncData} {ps : List Str} {sp : Sp} {E : XK}
theorem op_ownC {op : CmpOp} (hop : ∀ a b, compareOp op a b = richCompare op a b) (hs : PySem.W.findIn X.K (.ref C) (cmpInfo op).2.1 = some (some (.ref g)))
    (hf : PySem.W.isFn X.K (.ref g) = true) (F : FnOk X.prog X.w X.K X.mg X.base CX n g fd ps sp) (hb : Binds X.K fd ps []) (hr : Room n X.A) (hx : Passes CX X E) :
    OpR X (compareOp op) (rOwnC X.K C sp E) := by
  intro pins s σ H x y v u Q I rx ry h
  obtain ⟨a, dx, fs, t, rfl, ha, ty, hn, q⟩ := h
  cases (show v = Value.ref a from rx)
  obtain ⟨mA, J, _⟩ := ins_get I.hok ha
  obtain ⟨od, J, _⟩ := J.look
  obtain ⟨P, Z, hp, _⟩ := kit_of I ry ty
  obtain ⟨m, hF⟩ := I.fr
  rw [hop]
  refine PySem.W.cmp_K (op := op) (tb := t) hr.units0 hF I.ok.mod.kin J (Z.ty _ _ I.kIn hp) hn hs hf ?_
  refine wpAny_mono (run_fn (us := [.ref a, u]) (vs := [.ref a, y]) F hr hb .nil hx I (.cons rfl (.cons ry .nil)) q) (fun w s' z => ?_) fun _ _ x => x
  obtain ⟨z', H', I', rz, qz⟩ := z
  exact cmp_back rz ⟨z', H', I', rz, qz⟩
end

/-! ### != by an own ==, where the class has no != of its own -/
theorem ifBuilt_K {M : Model} {K : PySem.W.Frag} {A : Around} {E : Value → Shared → Prop} {s : Shared} {x C : Addr} {ox : Obj} {od : Option Obj} {T : String} {name : Str} {id : String} {args : List Value} {Q : Option Value → Shared → Prop}
    (X : K.In s.heap) (I : PySem.W.InstAt s.heap x ox C od) (hs : PySem.W.findIn K (.ref C) name = some (some (.builtin id))) (S : Slot T name id)
    (h : wpAny M A (call (.builtin id) (.ref x :: args)) (fun v => Q (some v)) E s) : wpAny M A (callSpecialIfBound? (.ref x) name args) Q E s := by
  simp only [callSpecialIfBound?, bindSpecialIfBound?]
  refine wpAny_holding (wpAny_bind (wpAny_bind (wpAny_bind (I.type.here ((PySem.W.looks_findIn X hs).here ?_)))))
  simp only [S.bind]
  refine wpAny_bind (wpAny_askSetting (wpAny_ite ?_))
  have fin : wpAny M A (call (.builtin id) ([.ref x] ++ args) >>= fun v => pure (some v)) Q E s :=
    wpAny_bind (wpAny_mono h (fun v s' h' => wpAny_pure h') fun _ _ h' => h')
  split
  · exact wpAny_bind (wpAny_pure (wpAny_pure fin))
  · exact wpAny_tryCatch (wpAny_bind (wpAny_pure (wpAny_pure fin)))
section
variable {prog : Program} {w : World} {A : Around} {E : Value → Shared → Prop} {s : Shared} {K : PySem.W.Frag} {x C f L : Addr} {ox : Obj} {od : Option Obj} {b tb : Value} {h0 : Heap} {m : Str → Option Value}
theorem ne_K {Q : Value → Shared → Prop} (hu : A.units + 1 < cLine) (FF : PyProof.Rows.Fr h0 L s.heap m) (X0 : K.In h0) (I : PySem.W.InstAt s.heap x ox C od)
    (hb : PySem.W.Looks (model prog w) s.heap (typeOf b) tb) (hn : PySem.W.notFirst K C tb = true) (hne : PySem.W.findIn K (.ref C) "__ne__" = some (some (.builtin "object.__ne__")))
    (hs : PySem.W.findIn K (.ref C) "__eq__" = some (some (.ref f))) (hf : PySem.W.isFn K (.ref f) = true) (hm : PySem.W.mroIn K C (.type "object") = some true)
    (h : wpAny (model prog w) A.in1 (call (.ref f) [.ref x, b]) (fun v s' => ∃ r, v = .bool r ∧ Q (.bool (!r)) s') E s) :
    wpAny (model prog w) A (richCompare .NotEq (.ref x) b) Q E s := by
  have X := X0.keeps FF.keep
  have sub : PySem.W.Looks (model prog w) s.heap (isInstance (.ref x) (.type "object")) true := I.type.andThen (PySem.W.looks_mroIn X hm)
  have one : wpAny (model prog w) A (tryCompare (.ref x) (cmpInfo .NotEq).2.1 b) (fun r s' => ∃ v, r = some v ∧ Q v s') E s := by
    unfold tryCompare
    refine wpAny_bind (ifBuilt_K X I hne F.cmp_object.ne (wpAny_call (codeAny_call_builtin F.cmp_object.ne.plain F.cmpEntry_ne
      (PySem.W.check_slot F.cmpKind_ne F.cmpSplit_ne sub (F.cmpArgs_ne _ _) ?_))))
    unfold Builtin.«object.__ne__»
    refine wpAny_bind (wpAny_of_eq (a := ((Value.ref x : Value), [b])) (by first | rfl | (simp only [slotArgs]; rfl)) ?_)
    dsimp only
    refine wpAny_bind (wpAny_cRoomFor (show A.in1.units < cLine from hu) ?_)
    refine wpAny_bind (PySem.W.ifBound_K X I hs hf (wpAny_mono h (fun v s' hv => ?_) fun _ _ e => e))
    obtain ⟨r, rfl, hq⟩ := hv
    dsimp only
    refine wpAny_bind (wpAny_truthy_bool ?_)
    first
      | exact wpAny_pure ⟨_, rfl, hq⟩
      | exact wpAny_pure (wpAny_pure ⟨_, rfl, hq⟩)
      | (unfold Builtin.ret; exact wpAny_pure ⟨_, rfl, hq⟩)
  unfold richCompare
  simp only [oneThing_ref]
  refine wpAny_holding (wpAny_bind (wpAny_cRoomFor (Nat.lt_of_succ_lt hu) ?_))
  refine wpAny_bind (I.type.here (wpAny_bind (hb.here ?_)))
  split
  · rename_i q
    have e : PySem.W.subIn K tb (.ref C) = some false := by
      rcases Bool.or_eq_true_iff.mp hn with e | e
      · rw [beq_iff_eq.mp e] at q; simp at q
      · exact beq_iff_eq.mp e
    refine wpAny_bind ((PySem.W.looks_subIn X e).here ?_)
    simp only [Bool.false_eq_true, if_false]
    refine wpAny_bind (wpAny_mono one (fun r s' z => ?_) fun _ _ e => e)
    obtain ⟨v, rfl, hq⟩ := z
    exact wpAny_pure hq
  · refine wpAny_bind (wpAny_pure ?_)
    simp only [Bool.false_eq_true, if_false]
    refine wpAny_bind (wpAny_mono one (fun r s' z => ?_) fun _ _ e => e)
    obtain ⟨v, rfl, hq⟩ := z
    exact wpAny_pure hq
end

section
variable {X : Cx} {CX : CXT} {n : Nat} {C g : Addr} {fd : FuncData} {ps : List Str} {sp : Sp} {E : XK}
/-- x != y: what the own == answers, turned round -/
def rNeC (K : PySem.W.Frag) (C : Addr) (sp : Sp) (E : XK) : R2 := fun x y H Q => ∃ a dx fs t, x = .ref a ∧ H a = some (.ins C dx fs) ∧ TyX K H y t ∧
  PySem.W.notFirst K C t = true ∧ sp [x, y] H (fun v H' => ∃ r, v = .bl r ∧ Q (.bl (!r)) H') E
theorem op_neC (hne : PySem.W.findIn X.K (.ref C) "__ne__" = some (some (.builtin "object.__ne__"))) (hm : PySem.W.mroIn X.K C (.type "object") = some true)
    (hs : PySem.W.findIn X.K (.ref C) "__eq__" = some (some (.ref g))) (hf : PySem.W.isFn X.K (.ref g) = true) (F : FnOk X.prog X.w X.K X.mg X.base CX n g fd ps sp) (hb : Binds X.K fd ps [])
    (hr : Room (n + 1) X.A) (hx : Passes CX X E) : OpR X (compareOp .NotEq) (rNeC X.K C sp E) := by
  intro pins s σ H x y v u Q I rx ry h
  obtain ⟨a, dx, fs, t, rfl, ha, ty, hn, q⟩ := h
  cases (show v = Value.ref a from rx)
  obtain ⟨mA, J, _⟩ := ins_get I.hok ha
  obtain ⟨od, J, _⟩ := J.look
  obtain ⟨P, Z, hp, _⟩ := kit_of I ry ty
  obtain ⟨m, hF⟩ := I.fr
  show wpAny (model X.prog X.w) X.A (richCompare .NotEq (.ref a) u) _ _ s
  refine ne_K (by have := hr.un; omega) hF I.ok.mod.kin J (Z.ty _ _ I.kIn hp) hn hne hs hf hm ?_
  have r2 : Vals [V.ref a, y] [Value.ref a, u] := .cons rfl (.cons ry .nil)
  have hl := F.len _ _ _ _ q
  refine wpAny_call (codeAny_mono (F.run X.A.in1 X.stack s H ⟨[.ref a, u], []⟩ [.ref a, u] [.ref a, y] _ E hr.in1 I.env0.in1 (by
    have z := hb s [.ref a, u] I.kIn (by simpa using hl)
    simpa using z) r2 q) fun r s' hq => ?_)
  cases r with
  | error e => exact hx pins σ H s e s' I hq
  | ok fl =>
    cases fl with
    | ret w =>
      obtain ⟨z, H', I', rz, k, ez, qz⟩ := I.after hq
      subst ez
      cases (show w = Value.bool k from rz)
      exact ⟨k, rfl, .bl (!k), H', I', rfl, qz⟩
    | next => exact False.elim hq
    | brk => exact False.elim hq
    | cont => exact False.elim hq
end

end CT
namespace CT
open PySem PySem.Spec PyProof.Rows L2

/-! ### repr of data, where no repr is under way around -/
/-- repr(x) -/
def rRepr (K : PySem.W.Frag) : List V → Hp → VK → Prop := fun xs H Q => ∃ (x : V) (d : PyData), xs = [x] ∧ Dp K H x d ∧ d.showable = true ∧ d.hasDict = false ∧
  d.depth ≤ 60 ∧ d.shown.length ≤ sizeLine ∧ Q (.str d.shown) H
theorem call_repr {X : Cx} (hg : X.A.guards = some []) (hu : X.A.units + 64 < cLine) : CallR X (.builtin "repr") (rRepr X.K) := by
  intro pins s σ H xs us Q I r h
  obtain ⟨x, d, rfl, hd, sh, nd, dp, sz, q⟩ := h
  cases r with
  | cons rx rr =>
    rename_i u us'
    cases rr
    have fin : ∀ (tk : Tok) (t' : Nat), EP X pins σ Q (.str d.shown tk) { s with toks := t' } := fun tk t' => ⟨.str d.shown, H, I.tok _, ⟨_, rfl⟩, q⟩
    cases hd with
    | non =>
      cases (show u = Value.none from rx)
      exact PySem.P.repr_of_none (fin _ _)
    | bl b =>
      cases (show u = Value.bool b from rx)
      refine PySem.P.repr_of_bool ?_
      cases b <;> exact fin _ _
    | int i =>
      obtain ⟨t, rfl⟩ := (show ∃ t, u = Value.int i t from rx)
      exact PySem.P.repr_of_int (by simpa [PyData.showable] using sh) (fin _ _)
    | str y =>
      obtain ⟨t, rfl⟩ := (show ∃ t, u = Value.str y t from rx)
      exact PySem.P.repr_of_str (fin _ _) sz
    | lst hs ha =>
      rename_i b ys ds
      obtain ⟨as, rd⟩ := Dp.reads I _ _ u (Dp.lst hs ha) rx
      cases (show u = Value.ref b from rx)
      exact repr_of_reads' rd sh (fun z => absurd (nd.symm.trans z) (by decide)) hg (by omega) (fun _ _ e => e) (fun h' tk t' k => ⟨.str _, H, I.kept k, ⟨_, rfl⟩, q⟩) sz
    | tup hs ha =>
      rename_i b ys ds
      obtain ⟨as, rd⟩ := Dp.reads I _ _ u (Dp.tup hs ha) rx
      cases (show u = Value.ref b from rx)
      exact repr_of_reads' rd sh (fun z => absurd (nd.symm.trans z) (by decide)) hg (by omega) (fun _ _ e => e) (fun h' tk t' k => ⟨.str _, H, I.kept k, ⟨_, rfl⟩, q⟩) sz

/-! ### defs that ask for reprs: their promise holds where no repr is under way -/
structure FnOkG (P : Program) (w : World) (K : PySem.W.Frag) (mg : Str → Option Value) (base : Heap) (CX : CXT) (k : Nat) (f : Addr) (fd : FuncData) (ps : List Str) (sp : Sp) : Prop where
  len : ∀ vs H Q E, sp vs H Q E → vs.length = ps.length
  run : ∀ (A : Around) (outer : List Env) (s : Shared) (H : Hp) (args : Args) (us : List Value) (vs : List V) (Q : VK) (E : XK), Room k A → A.guards = some [] →
    Env0 P w K mg base A outer s H → BindsTo s fd args (ps.zip us) → Vals vs us → sp vs H Q E → codeAny (model P w) A (.call (.ref f) args) (CR CX outer P w H s Q E) s
theorem _root_.L2.FnOk.toG {P : Program} {w : World} {K : PySem.W.Frag} {mg : Str → Option Value} {base : Heap} {CX : CXT} {k : Nat} {f : Addr} {fd : FuncData} {ps : List Str} {sp : Sp}
    (F : FnOk P w K mg base CX k f fd ps sp) : FnOkG P w K mg base CX k f fd ps sp :=
  ⟨F.len, fun A outer s H args us vs Q E hr _ => F.run A outer s H args us vs Q E hr⟩
section
variable {X : Cx} {CX : CXT} {k : Nat} {f C : Addr} {fd : FuncData} {ps : List Str} {sp : Sp} {dvs : List V} {ds : List Value} {E : XK} {x : Str} {p pos : Pos} {e : Expr} {es : List Expr} {t : TA}
theorem run_fnG {pins : List (Addr × Obj)} {σ : St} {H : Hp} {s : Shared} {Q : VK} {us : List Value} {vs : List V} (F : FnOkG X.prog X.w X.K X.mg X.base CX k f fd ps sp)
    (hr : Room k X.A) (hgd : X.A.guards = some []) (hb : Binds X.K fd ps ds) (hd : Vals dvs ds) (hx : Passes CX X E)
    (I : Inv X pins σ H s) (r : Vals vs us) (h : sp (vs ++ dvs) H Q E) : wpAny (model X.prog X.w) X.A (call (.ref f) us) (EP X pins σ Q) X.xe s := by
  have r2 := r.append hd
  have hl : (us ++ ds).length = ps.length := by
    rw [← r2.length]
    exact F.len _ _ _ _ h
  have c := F.run X.A X.stack s H ⟨us, []⟩ (us ++ ds) (vs ++ dvs) Q E hr hgd I.env0 (hb s us I.kIn hl) r2 h
  refine wpAny_call (codeAny_mono c fun r s' hq => ?_)
  match r, hq with
  | .error e, hq => exact hx pins σ H s e s' I hq
  | .ok (.ret u), hq => exact I.after hq
  | .ok .next, hq => exact False.elim hq
  | .ok .brk, hq => exact False.elim hq
  | .ok .cont, hq => exact False.elim hq
theorem pe_callG (F : FnOkG X.prog X.w X.K X.mg X.base CX k f fd ps sp) (hr : Room k X.A) (hgd : X.A.guards = some []) (hg : Gl X x) (hm : X.mg x = some (.ref f))
    (hk : PySem.W.keepIn X.K (.ref f) = true) (hb : Binds X.K fd ps ds) (hd : Vals dvs ds) (hx : Passes CX X E) (ha : PA X (e :: es) t)
    (hdb : (x == ("__debug__" : Str)) = false := by decide) (he : starEach (e :: es) X.env = (false, eval e X.env) :: starEach es X.env := by rfl)
    (hpl : (backTo pos (starEach es X.env)).any (·.1) = false := by rfl) : PE X (.Call (.Name x p) (e :: es) [] pos) (tCall sp dvs E t) := by
  constructor
  intro pins s σ H Q I h
  refine wpAny_Call_Name_kw (ld_glob I hg hm ?_ hdb)
  refine PySem.W.callWith_K (h₀ := X.base) I.ok.mod.kin hk (thn (ha.run pos pins s σ H _ I h) fun us s1 z => ?_) he hpl
  obtain ⟨vs, H1, I1, r, q⟩ := z
  exact ⟨I1.kIn, run_fnG F hr hgd hb hd hx I1 r q⟩
end
/-- a def by its body, its promise for where no repr is under way -/
theorem _root_.L2.Fun.okG {P : Program} {w : World} {K : PySem.W.Frag} {mg : Str → Option Value} {base : Heap} {x qual : Str} {st : Stmt} {f : Addr} {fd : FuncData} {N ps : List Str} {k : Nat} {sp : Sp}
    (F : L2.Fun K x qual st f fd) (S : FnScope N ps (defScope st)) (len : ∀ vs H Q E, sp vs H Q E → vs.length = ps.length)
    (hbody : ∀ (cdv : Value) (A : Around) (outer : List Env) (s : Shared) (H : Hp) (vs : List V) (Q : VK) (E : XK), A.guards = some [] →
      Room k (A.deeper (envOfC qual (defScope st) s.heap.objs.size f cdv)) → sp vs H Q E →
      ∃ t, PSs (cxOf CX0 P w K mg base N qual (defScope st) f cdv A outer s H E).nox (defBody st) t ∧ t { nx := fun _ H' => Q .non H', rt := Q } (start N vs) H) :
    FnOkG P w K mg base CX0 (k + 1) f fd ps sp := by
  obtain ⟨oc, od, kV, doc, pm, an, cdv, ct, osl, rfl, lk, hcd⟩ := F.ex
  refine ⟨len, fun A outer s H args us vs Q E hr hgd e0 hb r hsp => ?_⟩
  exact LamX.run_ofS (N := N) lk hcd S hr e0 hb r (len _ _ _ _ hsp) fun hr' => by
    obtain ⟨t, h, q⟩ := hbody cdv A outer s H vs Q E hgd hr' hsp
    exact ⟨t, h.nox, q⟩
end CT
namespace CT
open PySem PySem.Spec PyProof.Rows L2

/-! ### the end of a law whose defs ask for reprs; tb: the tables of code objects -/
/-- the abstract heap that the law begins with: the script, locked, and the tables, empty -/
def lawH (K : PySem.W.Frag) (a : Addr) (vs : Array Value) (ns : List Int) (tb : List Addr) : Hp := fun b =>
  if b = a ∧ K.lookup a = none then some (.frz { cls := .type "list", data := .seq vs } (.lst (ns.map V.int)))
  else if b ∈ tb then some (.tbl #[]) else none
section
variable {P : Program} {w : World} {K : PySem.W.Frag} {mg mb : Str → Option Value} {CX : CXT} {k : Nat} {fa a : Addr} {cs : List (Addr × Addr)} {fd : FuncData} {x : Str} {sp : Sp}
  {s1 : Shared} {vs : List Value} {ns : List Int}
theorem law_callG (KX : K.In s1.heap) (hns : s1.heap.Ns mainGlobals mg) (hb : s1.heap.Ns builtinsNs mb) (hbb : ∀ x : Str, x ≠ "__name__" → mb x = bootBuiltins x)
    (hlim : s1.heap.NoLimit) (hg : s1.gens = #[]) (hT : ∀ p ∈ cs, s1.heap.get? p.2 = some { cls := .none, data := .fields #[] }) (nT : ∀ p ∈ cs, K.lookup p.2 = none)
    (C : ∀ p ∈ cs, PySem.W.CodeHd s1.heap p.1 p.2)
    (hbm : ∃ (bm : Addr) (ob : Obj), mg "__builtins__" = some (.ref bm) ∧ bm ≠ builtinsNs ∧ s1.heap.get? bm = some ob ∧ ob.cls = .type "module" ∧ ob.dict = some builtinsNs ∧ ob.data = .plain)
    (ha : s1.heap.get? a = some { cls := .type "list", data := .seq vs.toArray }) (hi : IntsAre vs ns) (hl : ns.length ≤ sizeLine) (hr : Room k callerA)
    (F : ∀ base : Heap, K.In base → base.Ns mainGlobals mg → (∀ p ∈ cs, LamX.TabB base mg p.1 p.2) → FnOkG P w K mg base CX k fa fd [x] sp)
    (hbind : ∀ (s : Shared) (u : Value), BindsTo s fd ⟨[u], []⟩ [(x, u)])
    (hsp : ∀ H : Hp, (∀ p ∈ cs, H p.2 = some (.tbl #[])) → SqL K H a (ns.map V.int) → sp [.ref a] H (fun v _ => v = .bl true) fun _ _ _ => False)
    (hCX : ∀ H e s', CX [] H s1 (fun _ _ _ => False) e s' → False) :
    codeAny (model P w) callerA (.call (.ref fa) ⟨[.ref a], []⟩) (fun r s' => r = .ok (.ret (.bool true)) ∧ OldK s1.heap s'.heap ∧ s'.os = s1.os ∧ AllBare s'.gens) s1 := by
  have rv : Vals (ns.map V.int) vs := vals_ints hi
  have lenV := hi.length
  let tb := cs.map (·.2)
  have inT : ∀ b, b ∈ tb → s1.heap.get? b = some { cls := .none, data := .fields #[] } := fun b q => by
    obtain ⟨p, hp, rfl⟩ := List.mem_map.mp q
    exact hT p hp
  have kT : ∀ b, b ∈ tb → K.lookup b = none := fun b q => by
    obtain ⟨p, hp, rfl⟩ := List.mem_map.mp q
    exact nT p hp
  have toT : ∀ p ∈ cs, p.2 ∈ tb := fun p hp => List.mem_map.mpr ⟨p, hp, rfl⟩
  have aNotT : a ∉ tb := fun q => by
    have z := (inT a q).symm.trans ha
    cases z
  let H := lawH K a vs.toArray ns tb
  have Ha : K.lookup a = none → H a = some (.frz { cls := .type "list", data := .seq vs.toArray } (.lst (ns.map V.int))) := fun q => if_pos ⟨rfl, q⟩
  have Ht : ∀ b, b ∈ tb → H b = some (.tbl #[]) := fun b q => by
    have n : ¬ (b = a ∧ K.lookup a = none) := fun z => aNotT (z.1 ▸ q)
    exact (if_neg n).trans (if_pos q)
  have Hn : ∀ b, ¬ (b = a ∧ K.lookup a = none) → b ∉ tb → H b = none := fun b n q => (if_neg n).trans (if_neg q)
  have HS : SqL K H a (ns.map V.int) := by
    cases q : K.lookup a with
    | none => exact .inl (.inr ⟨_, Ha q⟩)
    | some o =>
      have z := (KX a o q).symm.trans ha
      cases z
      exact .inr ⟨_, vs.toArray, _, q, rfl, rfl, rfl, by rw [List.size_toArray, lenV]; exact hl, by simpa using rv⟩
  have Hok : HOk P w H s1.heap := fun b u e => by
    by_cases h1 : b = a ∧ K.lookup a = none
    · obtain ⟨rfl, q⟩ := h1
      rw [Ha q] at e
      cases e
      exact ⟨ha, by rw [List.length_map]; exact hl, vs, _, rv, ha⟩
    · by_cases h2 : b ∈ tb
      · rw [Ht b h2] at e
        cases e
        exact inT b h2
      · rw [Hn b h1 h2] at e
        cases e
  -- what is neither a list nor an empty record of fields isn't tracked
  have off : ∀ {b : Addr} {o : Obj}, s1.heap.get? b = some o → (∀ v n, o.data ≠ .seq v n) → o.data ≠ .fields #[] → H b = none := fun {b o} e n1 n2 => by
    refine Hn b (fun z => ?_) (fun z => ?_)
    · obtain ⟨rfl, _⟩ := z
      rw [ha] at e
      cases e
      exact n1 _ _ rfl
    · rw [inT b z] at e
      cases e
      exact n2 rfl
  have offD : ∀ {b : Addr} {o : Obj} {es : Array DictEntry} {ep : Nat}, s1.heap.get? b = some o → o.data = .dict es ep → H b = none := fun {b o es ep} e d =>
    off e (fun v n z => by rw [d] at z; cases z) (fun z => by rw [d] at z; cases z)
  have toBase : ∀ {b : Addr} {o : Obj}, s1.heap.get? b = some o → H b = none → (hidT s1.heap H).get? b = some o := fun e n => hidT_get e n
  have nsB : ∀ {b : Addr} {m : Str → Option Value}, s1.heap.Ns b m → (hidT s1.heap H).Ns b m := fun {b m} z => by
    obtain ⟨o, es, ep, e, d, r⟩ := z
    exact ⟨o, es, ep, toBase e (offD e d), d, r⟩
  have KB : K.In (hidT s1.heap H) := fun b o e => toBase (KX b o e) (Hn b (fun z => by
      obtain ⟨rfl, q⟩ := z
      rw [q] at e
      cases e) fun z => by
      rw [kT b z] at e
      cases e)
  have MB : Mod K mg (hidT s1.heap H) := ⟨KB, nsB hns, ⟨mb, nsB hb, hbb⟩, by
    obtain ⟨mc, h1, h2⟩ := hlim
    exact ⟨mc, nsB h1, h2⟩⟩
  have TB : ∀ p ∈ cs, LamX.TabB (hidT s1.heap H) mg p.1 p.2 := fun p hp => by
    refine ⟨?_, ?_, fun z => ?_⟩
    · obtain ⟨o, us, file, tf, flags, tg, inF, text, tt, e1, r1, r2, r3, r4, r5, r6, r7, r8, hne⟩ := C p hp
      refine ⟨o, us, file, tf, flags, tg, inF, text, tt, toBase e1 (off e1 (fun v n z => ?_) fun z => ?_), r1, r2, r3, r4, r5, r6, r7, r8, hne⟩
      · rw [r2] at z
        cases z
      · rw [r2] at z
        cases z
        simp at r3
    · obtain ⟨bm, ob, b1, b2, b3, b4, b5, b6⟩ := hbm
      refine ⟨bm, ob, b1, b2, fun q => ?_, fun q => ?_, toBase b3 (off b3 (fun v n z => by rw [b6] at z; cases z) fun z => by rw [b6] at z; cases z), b4, b5, b6⟩
      · obtain ⟨o, es, ep, e, d, _⟩ := hns
        rw [q, e] at b3
        cases b3
        rw [d] at b6
        cases b6
      · rw [q, hT p hp] at b3
        cases b3
        cases b6
    · obtain ⟨o, es, ep, e, d, _⟩ := hns
      rw [z, hT p hp] at e
      cases e
      cases d
  have noFr : ∀ b ∈ frs ([] : List Env), H b = none := fun b z => absurd (show b ∈ ([] : List Addr) from z) (by simp)
  have E0 : Env0 P w K mg (hidT s1.heap H) callerA [] s1 H := ⟨rfl, MB, fun b o e => of_hidT e, Nat.le_of_eq (hidT_size _ _), trivial, noFr, Hok, .of_eq hg⟩
  have run := (F _ KB (nsB hns) TB).run callerA [] s1 H ⟨[.ref a], []⟩ [.ref a] [.ref a] _ _ hr rfl E0 (hbind s1 (.ref a)) (.cons rfl .nil) (hsp H (fun p hp => Ht _ (toT p hp)) HS)
  refine codeAny_mono run fun r s' h => ?_
  match r, h with
  | .error e, h => exact (hCX H e s' h).elim
  | .ok .next, h => exact False.elim h
  | .ok .brk, h => exact False.elim h
  | .ok .cont, h => exact False.elim h
  | .ok (.ret u), h =>
    obtain ⟨v, H', os, bare, un, hok', r', q⟩ := h
    have q' : v = .bl true := q
    subst q'
    obtain rfl : u = Value.bool true := r'
    have stays : ∀ b o, b ∉ tb → s1.heap.get? b = some o → s'.heap.get? b = some o := fun b o nb e => by
      by_cases h1 : b = a ∧ K.lookup a = none
      · obtain ⟨rfl, q⟩ := h1
        obtain ⟨e1, _⟩ := Hok b _ (Ha q)
        obtain ⟨e2, _⟩ := hok' b _ (un.frzs b _ _ (Ha q))
        rw [e1] at e; cases e; exact e2
      · exact un.keep b o e (Hn b h1 nb) (fun z => nomatch z) (fun z => nomatch z)
    have grew : ∀ b, b ∈ tb → ∃ more : Array Value, s'.heap.get? b = some { cls := .none, data := .fields more } := fun b z => by
      obtain ⟨more, y⟩ := un.tbls b #[] (Ht b z)
      exact ⟨_, hok' b _ y⟩
    refine ⟨rfl, ⟨fun b o e => ?_, fun b o e => ?_⟩, os, bare⟩
    · by_cases hbt : b ∈ tb
      · obtain ⟨more, hm⟩ := grew b hbt
        obtain ⟨p, hp, ep⟩ := List.mem_map.mp hbt
        have ct := ((C p hp).tab (hT p hp)).isCodeTable
        rw [ep] at ct
        rw [inT b hbt] at e
        cases e
        exact .inr (.inl ⟨ct, rfl, #[], more, rfl, by rw [Array.empty_append]; exact hm⟩)
      · exact .inl (stays b o hbt e)
    · by_cases hbt : b ∈ tb
      · obtain ⟨more, hm⟩ := grew b hbt
        exact ⟨_, hm⟩
      · exact ⟨o, stays b o hbt e⟩
end
/-- what is known of the law's promise at the head's heap h -/
def LawAtG (l : PySem.W.OpenLaw) (w : World) (K : PySem.W.Frag) (CX : CXT) (k n : Nat) (x : Str) (mg : Str → Option Value) (fa : Addr) (h : Heap) : Prop :=
  ∃ (fd : FuncData) (cs : List (Addr × Addr)) (sp : Sp), (∀ p ∈ cs, h.get? p.2 = some { cls := .none, data := .fields #[] }) ∧ (∀ p ∈ cs, K.lookup p.2 = none) ∧
    (∀ p ∈ cs, PySem.W.CodeHd h p.1 p.2) ∧ (∀ (s : Shared) (u : Value), BindsTo s fd ⟨[u], []⟩ [(x, u)]) ∧
    (∀ (H : Hp) (a : Addr) (ns : List Int), ns.length ≤ n → (∀ z ∈ ns, Builtin.Int.intBits z ≤ 1048576) → (∀ p ∈ cs, H p.2 = some (.tbl #[])) → SqL K H a (ns.map V.int) →
      sp [.ref a] H (fun v _ => v = .bl true) fun _ _ _ => False) ∧
    ∀ base : Heap, K.In base → base.Ns mainGlobals mg → (∀ p ∈ cs, LamX.TabB base mg p.1 p.2) → FnOkG l.prog w K mg base CX k fa fd [x] sp
theorem walk_ofG {l : PySem.W.OpenLaw} {n k : Nat} {q : Program} {loose : List Str} {XP : (Str → Option Value) → Heap → Prop} {YP : World → Heap → Prop} {d : DefRec}
    {K : Params → PySem.W.Frag} {CX : World → CXT} {x : Str} (hn : l.most = some n) (hn2 : n ≤ sizeLine) (hdf : d.params.defaults = []) (hr : Room k callerA)
    (hY : ∀ (w : World) (h : Heap), YP w h → (K w.params).In h)
    (F : ∀ (w : World) (mg : Str → Option Value) (fa : Addr) (h : Heap), YP w h → (K w.params).In h → h.Ns mainGlobals mg → mg d.name = some (.ref fa) →
      LawAtG l w (K w.params) (CX w) k n x mg fa h)
    (hCX : ∀ (w : World) (H : Hp) (s : Shared) (e : Value) (s' : Shared), CX w [] H s (fun _ _ _ => False) e s' → False) :
    PySem.W.WalkO q loose XP YP l.row.toRowW d [] (fun f vs => PySem.call f vs) := by
  refine Att.attach_callB hn hdf fun w s0 s1 mg mb fa o pm cd doc a vs ns G Y ho hd hcd hmg hobj hints hlen hbits hg => ?_
  have KX := hY w _ Y
  obtain ⟨fd, cs, sp, hT, nT, C, hb, hsp, hF⟩ := F w mg fa _ Y KX G.T.g hmg
  exact law_callG KX G.T.g G.T.b G.T.builtins G.T.nolimit hg hT nT C G.T.bmain hobj hints (Nat.le_trans hlen hn2) hr hF hb
    (fun H hH hS => hsp H a ns hlen hbits hH hS) fun H e s' => hCX w H s1 e s'
end CT
namespace CT
open PySem PySem.Spec PyProof.Rows L2
open He (ga ma fAd)

/-! ### facts of the written part, each a Bool that the head's run computes -/
/-- a class by its name -/
inductive Nm where
  | own (x : Str)
  | ty (n : String)
def Nm.val (K : PySem.W.Frag) : Nm → Value
  | .own x => .ref (ga K x)
  | .ty n => .type n
/-- the record of a class, over ValueError, with its own classes between -/
def oexB (K : PySem.W.Frag) (C : Addr) : Bool := match K.lookup C with
  | some ⟨.type "type", _, .cls cd, sl⟩ => (match cd.mro, sl.toList with
    | .ref C' :: bm, [_, _, _, _, some (.builtin n), _] => decide (C' = C) && (decide (n = "ValueError.__new__") && (!cd.hasDel && (cd.hasDict && HandSPX.refsVE bm)))
    | _, _ => false)
  | _ => false
theorem oexB_ok {K : PySem.W.Frag} {C : Addr} (yes : oexB K C = true) : ∃ nm q N bs bm sn sub ab col dd k0 k1 k2 k3 k5,
    K.lookup C = some (excClassObj nm q C N bs bm true sn sub ab col dd k0 k1 k2 k3 k5 "ValueError.__new__") ∧ HandSPX.refsVE bm = true := by
  unfold oexB at yes
  split at yes
  case h_2 => contradiction
  rename_i dd cd sl look
  split at yes
  case h_2 => contradiction
  rename_i C' bm k0 k1 k2 k3 n k5 line rest
  simp only [Bool.and_eq_true, decide_eq_true_eq, Bool.not_eq_true'] at yes
  rcases yes with ⟨own, new, gone, kept, refs⟩
  refine ⟨cd.name, cd.qualname, cd.ns, cd.bases, bm, cd.slotNames, cd.subclasses, cd.abstract, cd.collection, dd, k0, k1, k2, k3, k5, look.trans ?_, refs⟩
  rw [own] at line
  rw [new] at rest
  rcases sl with ⟨_⟩
  cases cd
  cases (show _ = _ from line)
  cases (show _ = _ from rest)
  cases (show _ = _ from gone)
  cases (show _ = _ from kept)
  rfl
/-- a property's record, its getter -/
def propAt (K : PySem.W.Frag) (C : Addr) (f : Str) : Addr := match PySem.W.findIn K (.ref C) f with
  | some (some (.ref p)) => p
  | _ => 0
def recHead (K : PySem.W.Frag) (p : Addr) (T : String) : Addr := match PySem.W.recIn K p T with
  | some (.ref g :: _) => g
  | _ => 0
def recB (K : PySem.W.Frag) (p : Addr) (T : String) : Bool := match PySem.W.recIn K p T with
  | some (.ref _ :: _) => true
  | _ => false
theorem recB_ok {K : PySem.W.Frag} {p : Addr} {T : String} (h : recB K p T = true) : ∃ rest, PySem.W.recIn K p T = some (.ref (recHead K p T) :: rest) := by
  unfold recB at h
  split at h
  · rename_i g rest e
    exact ⟨rest, by unfold recHead; rw [e]⟩
  · cases h
def clsMc (K : PySem.W.Frag) (C : Addr) : Value := (PySem.W.typeIn K (.ref C)).getD .none
def cvalB (K : PySem.W.Frag) (C : Addr) (f : Str) (v : V) : Bool := match PySem.W.findCls K (.ref C) (clsMc K C) f with
  | some (.val u) => He.relB v u
  | _ => false
/-- the record of a classmethod or a static method that stands in the class -/
def cmAt (K : PySem.W.Frag) (C : Addr) (m : Str) : Addr := match PySem.W.findCls K (.ref C) (clsMc K C) m with
  | some (.get _ (.ref p) _ _) => p
  | _ => 0
def cmB (K : PySem.W.Frag) (C : Addr) (m : Str) : Bool := match PySem.W.findCls K (.ref C) (clsMc K C) m with
  | some (.get (.builtin b) (.ref _) .none (.ref D)) => decide (b = "classmethod.__get__") && decide (D = C)
  | _ => false

inductive Fc where
  /-- isinstance's answer for the kind t and the class c -/
  | kit (t c : Nm) (b : Bool)
  /-- an exception class over ValueError with an __init__ of its own -/
  | exo (x : Str)
  /-- the same without one of its own: what a clause, a class in isinstance asks -/
  | exb (x : Str)
  /-- a class's instances: isinstance asks them rightly; != is object's -/
  | ins (x : Str)
  | ne (x : Str)
  | op (x m : Str)
  | exm (x y : Str) (b : Bool)
  | cread (x : Str)
  | cval (x f : Str) (v : He.Dv)
  | prop (x f : Str)
  | cmet (x m : Str)
  | first (x : Str) (t : Nm)
  /-- the class is none of a built-in one; a name of the module that holds a built-in function -/
  | nomro (x : Str) (n : String)
  | bfun (x : Str) (id : String)
  /-- what a binary operator nm asks of the built-in kind n beside an instance of x; lf: does n take it as a number -/
  | bin (x : Str) (nm n : String) (lf : Bool)
  | sel (x : Str)
  /-- no method of its own for nm in place -/
  | inp (x : Str) (nm : String)
  /-- the interpreter's dict of modules is among what is known -/
  | smod
open PySem.W in
def binB (K : PySem.W.Frag) (C : Addr) (nm n : String) (lf : Bool) : Bool := (match findIn K (.type n) (PySem.dunder nm), findIn K (.type n) (dunderR nm) with
  | some fo, some ro => decide (((fo.isSome && !isSeqSlot fo) || (ro.isSome && !isSeqSlot ro)) = lf)
  | _, _ => false) && (decide (subIn K (.type n) (.ref C) = some false) && decide (mroIn K C (.type n) = some false))
open PySem.W in
def Fc.ok (K : PySem.W.Frag) : Fc → Bool
  | .kit t c b => decide (kitOne K (t.val K) (c.val K) = some b)
  | .exo x => oexB K (ga K x) && (He.eqO (findIn K (.ref (ga K x)) "__setattr__") (some (some (.builtin "object.__setattr__"))) &&
      (He.eqO (findIn K (.ref (ga K x)) "__init__") (some (some (.ref (ma K (ga K x) "__init__")))) && (decide (typeIn K (.ref (ma K (ga K x) "__init__")) = some (.type "function")) && keepIn K (.ref (ga K x)))))
  | .exb x => xfB K (ga K x) && (decide (typeIn K (.ref (ga K x)) = some (.type "type")) && (He.eqO (findIn K (.ref (ga K x)) "__class__") (some (some (.builtin "object.__class__"))) &&
      (decide (specialIn K (.builtin "object.__class__") "__get__" = some (some (.builtin "getset_descriptor.__get__"))) && (decide (takesIn K (.builtin "object.__class__") = some true) && decide (mroIn K (ga K x) (.type "object") = some true)))))
  | .ins x => He.eqO (findIn K (.ref (ga K x)) "__class__") (some (some (.builtin "object.__class__"))) &&
      (decide (specialIn K (.builtin "object.__class__") "__get__" = some (some (.builtin "getset_descriptor.__get__"))) && (decide (takesIn K (.builtin "object.__class__") = some true) && decide (mroIn K (ga K x) (.type "object") = some true)))
  | .ne x => He.eqO (findIn K (.ref (ga K x)) "__ne__") (some (some (.builtin "object.__ne__")))
  | .op x m => He.eqO (findIn K (.ref (ga K x)) m) (some (some (.ref (ma K (ga K x) m)))) && isFn K (.ref (ma K (ga K x) m))
  | .exm x y b => decide (exmOne K (.ref (ga K x)) (.ref (ga K y)) = some b)
  | .cread x => readsIn K (ga K x) (clsMc K (ga K x)) && decide (specialIn K (.ref (ga K x)) "__getattribute__" = some (some (.builtin "type.__getattribute__")))
  | .cval x f v => cvalB K (ga K x) f (v.v K)
  | .prop x f => He.eqO (findIn K (.ref (ga K x)) f) (some (some (.ref (propAt K (ga K x) f)))) && (decide (specialIn K (.ref (propAt K (ga K x) f)) "__get__" = some (some (.builtin "property.__get__"))) &&
      (decide (takesIn K (.ref (propAt K (ga K x) f)) = some true) && recB K (propAt K (ga K x) f) "property"))
  | .cmet x m => cmB K (ga K x) m && (recB K (cmAt K (ga K x) m) "classmethod" && fnIn K (recHead K (cmAt K (ga K x) m) "classmethod"))
  | .first x t => notFirst K (ga K x) (t.val K)
  | .nomro x n => decide (mroIn K (ga K x) (.type n) = some false)
  | .bfun x id => He.eqO (nsIn K mainGlobals x) (some (some (.builtin id)))
  | .bin x nm n lf => binB K (ga K x) nm n lf
  | .sel x => selfFirst K (ga K x)
  | .inp x nm => (clsIn K (ga K x)).any fun cd => cd.mro.all fun c => findIn K c (dunderI nm) == some none
  | .smod => (K.lookup sysModules).isSome
theorem ba {a b : Bool} (h : (a && b) = true) : a = true ∧ b = true := Bool.and_eq_true_iff.mp h
section
variable {K : PySem.W.Frag}
theorem kit_f {t c : Nm} {b : Bool} (h : (Fc.kit t c b).ok K = true) : PySem.W.kitOne K (t.val K) (c.val K) = some b := of_decide_eq_true h
structure BinT (K : PySem.W.Frag) (C : Addr) (nm n : String) (lf : Bool) : Prop where
  ex : ∃ fo ro, PySem.W.findIn K (.type n) (PySem.dunder nm) = some fo ∧ PySem.W.findIn K (.type n) (dunderR nm) = some ro ∧ ((fo.isSome && !isSeqSlot fo) || (ro.isSome && !isSeqSlot ro)) = lf
  sub : PySem.W.subIn K (.type n) (.ref C) = some false
  mro : PySem.W.mroIn K C (.type n) = some false
theorem bin_f {x : Str} {nm n : String} {lf : Bool} (h : (Fc.bin x nm n lf).ok K = true) : BinT K (ga K x) nm n lf := by
  obtain ⟨h1, h⟩ := ba h
  obtain ⟨h2, h3⟩ := ba h
  refine ⟨?_, of_decide_eq_true h2, of_decide_eq_true h3⟩
  split at h1
  · rename_i fo ro e1 e2
    exact ⟨fo, ro, e1, e2, of_decide_eq_true h1⟩
  · cases h1
def noInpB (K : PySem.W.Frag) (C : Addr) (nm : String) : Prop := ∃ cd, PySem.W.clsIn K C = some cd ∧ (cd.mro.all fun c => PySem.W.findIn K c (dunderI nm) == some none) = true
theorem inp_f {x : Str} {nm : String} (h : (Fc.inp x nm).ok K = true) : noInpB K (ga K x) nm := PySem.W.any_some h
theorem smod_f (h : Fc.smod.ok K = true) : (K.lookup sysModules).isSome = true := h
theorem sel_f {x : Str} (h : (Fc.sel x).ok K = true) : PySem.W.selfFirst K (ga K x) = true := h
/-- an exception class with an __init__ -/
structure ExoC (K : PySem.W.Frag) (C fI : Addr) : Prop where
  oex : OexC K C
  init : PySem.W.findIn K (.ref C) "__init__" = some (some (.ref fI))
  fn : PySem.W.typeIn K (.ref fI) = some (.type "function")
theorem exb_f {x : Str} (h : (Fc.exb x).ok K = true) : XfC K (ga K x) ∧ ExcC K (ga K x) ∧ PySem.W.typeIn K (.ref (ga K x)) = some (.type "type") := by
  obtain ⟨h1, h⟩ := ba h
  obtain ⟨h2, h⟩ := ba h
  obtain ⟨h3, h⟩ := ba h
  obtain ⟨h4, h⟩ := ba h
  obtain ⟨h5, h6⟩ := ba h
  have q := xfB_ok h1
  exact ⟨q, ⟨q.ga, q.gg, q.exC, q.hdC, He.eqO_ok h3, of_decide_eq_true h4, of_decide_eq_true h5, of_decide_eq_true h6⟩, of_decide_eq_true h2⟩
theorem exo_f {x : Str} (h : (Fc.exo x).ok K = true) (h' : (Fc.exb x).ok K = true) : ExoC K (ga K x) (ma K (ga K x) "__init__") := by
  obtain ⟨h1, h⟩ := ba h
  obtain ⟨h2, h⟩ := ba h
  obtain ⟨h3, h⟩ := ba h
  obtain ⟨h4, h5⟩ := ba h
  obtain ⟨a, b, c⟩ := exb_f h'
  exact ⟨⟨oexB_ok h1, He.eqO_ok h2, a.exC, c, h5⟩, He.eqO_ok h3, of_decide_eq_true h4⟩
theorem op_f {x m : Str} (h : (Fc.op x m).ok K = true) : PySem.W.findIn K (.ref (ga K x)) m = some (some (.ref (ma K (ga K x) m))) ∧ PySem.W.isFn K (.ref (ma K (ga K x) m)) = true := by
  obtain ⟨h1, h2⟩ := ba h
  exact ⟨He.eqO_ok h1, h2⟩
theorem ne_f {x : Str} (h : (Fc.ne x).ok K = true) : PySem.W.findIn K (.ref (ga K x)) "__ne__" = some (some (.builtin "object.__ne__")) := He.eqO_ok h
theorem exm_f {x y : Str} {b : Bool} (h : (Fc.exm x y b).ok K = true) : PySem.W.exmOne K (.ref (ga K x)) (.ref (ga K y)) = some b := of_decide_eq_true h
theorem cread_f {x : Str} (h : (Fc.cread x).ok K = true) : ClX.CRead K (ga K x) (clsMc K (ga K x)) := by
  obtain ⟨h1, h2⟩ := ba h
  exact ⟨h1, of_decide_eq_true h2⟩
theorem cval_f {x f : Str} {v : He.Dv} (h : (Fc.cval x f v).ok K = true) : ∃ u, ClX.CVal K (ga K x) (clsMc K (ga K x)) f (v.v K) u := by
  have h' : cvalB K (ga K x) f (v.v K) = true := h
  unfold cvalB at h'
  split at h'
  · rename_i u e
    exact ⟨u, e, He.relB_ok h'⟩
  · cases h'
theorem prop_f {x f : Str} (h : (Fc.prop x f).ok K = true) : PropOf K (ga K x) f (propAt K (ga K x) f) (recHead K (propAt K (ga K x) f) "property") := by
  obtain ⟨h1, h⟩ := ba h
  obtain ⟨h2, h⟩ := ba h
  obtain ⟨h3, h4⟩ := ba h
  exact ⟨He.eqO_ok h1, of_decide_eq_true h2, of_decide_eq_true h3, recB_ok h4⟩
theorem nomro_f {x : Str} {n : String} (h : (Fc.nomro x n).ok K = true) : PySem.W.mroIn K (ga K x) (.type n) = some false := of_decide_eq_true h
theorem first_f {x : Str} {t : Nm} (h : (Fc.first x t).ok K = true) : PySem.W.notFirst K (ga K x) (t.val K) = true := h
/-- what isinstance asks of an instance -/
structure InsC (K : PySem.W.Frag) (C : Addr) : Prop where
  cl : Cls K C
  ha : PySem.W.findIn K (.ref C) "__class__" = some (some (.builtin "object.__class__"))
  hn : PySem.W.specialIn K (.builtin "object.__class__") "__get__" = some (some (.builtin "getset_descriptor.__get__"))
  ht : PySem.W.takesIn K (.builtin "object.__class__") = some true
  hm : PySem.W.mroIn K C (.type "object") = some true
theorem ins_f {x : Str} (h : (Fc.ins x).ok K = true) (c : Cls K (ga K x)) : InsC K (ga K x) := by
  obtain ⟨h1, h⟩ := ba h
  obtain ⟨h2, h⟩ := ba h
  obtain ⟨h3, h4⟩ := ba h
  exact ⟨c, He.eqO_ok h1, of_decide_eq_true h2, of_decide_eq_true h3, of_decide_eq_true h4⟩
end

/-! ### defs by their places -/
inductive Pl where
  | fn (x : Str)
  | me (x m : Str)
  | pr (x m : Str)
  | cm (x m : Str)
def Pl.adr (K : PySem.W.Frag) : Pl → Addr
  | .fn x => ga K x
  | .me x m => ma K (ga K x) m
  | .pr x m => recHead K (propAt K (ga K x) m) "property"
  | .cm x m => recHead K (cmAt K (ga K x) m) "classmethod"
structure Df where
  at_ : Pl
  name : Str
  qual : Str
  st : Stmt
  dfl : List He.Dv := []
/-- the function that stands at a -/
def funAt? (K : PySem.W.Frag) (a : Addr) : Option FuncData := match K.lookup a with
  | some o => (match o.data with
    | .func fd => some fd
    | _ => none)
  | none => none
def wordsOf (fd : FuncData) : Str × Str × Arguments × FuncBody × Scope × Addr × List (Str × Addr) × Addr :=
  (fd.name, fd.qualname, fd.params, fd.body, fd.scope, fd.globals, fd.closure, fd.builtins)
def fnWa (K : PySem.W.Frag) (a : Addr) : He.FnW := (funAt? K a).map wordsOf
def Df.val (d : Df) : He.FnW := some (d.name, d.qual, defArgs d.st, .stmts (defBody d.st), defScope d.st, mainGlobals, [], builtinsNs)
def Df.dvs (K : PySem.W.Frag) (d : Df) : List V := d.dfl.map (He.Dv.v K)
def Df.ok (K : PySem.W.Frag) (d : Df) : Bool := PySem.W.keepIn K (.ref (d.at_.adr K)) && ((funAt? K (d.at_.adr K)).any fun fd =>
  PySem.W.codeIn K fd.code d.qual && (He.dflB K fd.defaults (d.dvs K) && He.kwdB K fd.kwdefaults []))
/-- a def's function data -/
def fdAt (K : PySem.W.Frag) (f : Addr) : FuncData := (funAt? K f).getD default
theorem funAt_some {K : PySem.W.Frag} {a : Addr} {fd : FuncData} (e : funAt? K a = some fd) : ∃ c dd sl, K.lookup a = some ⟨c, dd, .func fd, sl⟩ := by
  revert e
  unfold funAt?
  match K.lookup a with
  | none => exact nofun
  | some ⟨c, dd, da, sl⟩ =>
    cases da with
    | func fd' =>
      intro e
      obtain rfl : fd' = fd := Option.some.inj e
      exact ⟨c, dd, sl, rfl⟩
    | _ => exact nofun
theorem Df.funD {K : PySem.W.Frag} {d : Df} (words : fnWa K (d.at_.adr K) = d.val) (c : d.ok K = true) :
    FunD K d.name d.qual (defArgs d.st) (defBody d.st) (defScope d.st) (d.dvs K) [] (d.at_.adr K) (fdAt K (d.at_.adr K)) := by
  rcases Option.map_eq_some_iff.mp words with ⟨fd, here, words⟩
  have rest := (ba c).2
  unfold fdAt
  rw [here] at rest ⊢
  rcases ba rest with ⟨code, rest⟩
  rcases funAt_some here with ⟨oc, od, sl, look⟩
  refine ⟨⟨oc, od, fd.defaults, fd.kwdefaults, fd.doc, fd.pyModule, fd.annotations, fd.code, fd.closureTuple, sl, ?_, look, code, He.dflB_ok (ba rest).1, He.kwdB_ok (ba rest).2⟩, (ba c).1⟩
  cases fd
  cases words
  rfl
/-- a def's code object and its table -/
def codeAt (K : PySem.W.Frag) (f : Addr) : Addr := match (fdAt K f).code with
  | .ref c => c
  | _ => 0
def tabAt (K : PySem.W.Frag) (f : Addr) : Addr × Addr := (codeAt K f, He.tabOf K (codeAt K f))

/-! ### the Hook: facts, defs, tables of code objects that are empty and not in K -/
structure Sys where
  fa : List He.Fa
  fc : List Fc
  fn : List Df
  tf : List Pl
def asC (g : Addr → Option Obj) (n : Nat) : List Addr := He.asD g n ++ [cStatics, sysModules]
def tabsC (g : Addr → Option Obj) (tf : List Pl) (K : PySem.W.Frag) : Bool := tf.all fun p => PySem.W.codeHdIn K (tabAt K (p.adr K)).1 (tabAt K (p.adr K)).2 && (match g (tabAt K (p.adr K)).2 with
  | some o => He.emptyTab o
  | none => false)
/-- no table twice -/
def apartB : List Addr → Bool
  | [] => true
  | a :: l => (l.all fun b => decide (a ≠ b)) && apartB l
theorem apart_inj {l : List (Addr × Str)} (h : apartB (l.map (·.1)) = true) : ∀ p ∈ l, ∀ q ∈ l, p.1 = q.1 → p.2 = q.2 := by
  induction l with
  | nil => intro p hp; cases hp
  | cons x l ih =>
    have h' : ((l.map (·.1)).all (fun b => decide (x.1 ≠ b)) && apartB (l.map (·.1))) = true := h
    obtain ⟨h1, h2⟩ := Bool.and_eq_true_iff.mp h'
    have far : ∀ q ∈ l, x.1 ≠ q.1 := fun q hq => of_decide_eq_true (List.all_eq_true.mp h1 q.1 (List.mem_map.mpr ⟨q, hq, rfl⟩))
    intro p hp q hq e
    rcases List.mem_cons.mp hp with z1 | z1
    · rcases List.mem_cons.mp hq with z2 | z2
      · rw [z1, z2]
      · rw [z1] at e
        exact absurd e (far q z2)
    · rcases List.mem_cons.mp hq with z2 | z2
      · rw [z2] at e
        exact absurd e.symm (far p z1)
      · exact ih h2 p z1 q z2 e
def obsK (y : Sys) (K : PySem.W.Frag) : Bool := (y.fa.all fun f => f.ok K) && ((y.fc.all fun f => f.ok K) && ((y.fn.all fun d => d.ok K) && apartB (y.tf.map fun p => (tabAt K (p.adr K)).2)))
abbrev AlC : Type := Bool × List He.FnW
def obsC (n : Nat) (y : Sys) (g : Addr → Option Obj) : AlC :=
  (obsK y (He.frT g (asC g n)) && tabsC g y.tf (He.frT g (asC g n)), y.fn.map fun d => fnWa (He.frT g (asC g n)) (d.at_.adr (He.frT g (asC g n))))
def valC (y : Sys) : AlC := (true, y.fn.map Df.val)
structure SaysC (y : Sys) (h : Heap) (K : PySem.W.Frag) : Prop where
  k : obsK y K = true
  d : (y.fn.map fun d => fnWa K (d.at_.adr K)) = y.fn.map Df.val
  hd : ∀ p ∈ y.tf, PySem.W.codeHdIn K (tabAt K (p.adr K)).1 (tabAt K (p.adr K)).2 = true
  out : ∀ p ∈ y.tf, K.lookup (tabAt K (p.adr K)).2 = none
  empty : ∀ p ∈ y.tf, h.get? (tabAt K (p.adr K)).2 = some { cls := .none, data := .fields #[] }
theorem saysC_of {n : Nat} {y : Sys} {h : Heap} (e : obsC n y h.get? = valC y) : SaysC y h (He.frT h.get? (asC h.get? n)) := by
  have e1 : (obsK y (He.frT h.get? (asC h.get? n)) && tabsC h.get? y.tf (He.frT h.get? (asC h.get? n))) = true := congrArg (fun z : AlC => z.1) e
  have e2 : (y.fn.map fun d => fnWa (He.frT h.get? (asC h.get? n)) (d.at_.adr (He.frT h.get? (asC h.get? n)))) = y.fn.map Df.val := congrArg (fun z : AlC => z.2) e
  obtain ⟨h1, h2⟩ := ba e1
  have key : ∀ p ∈ y.tf, PySem.W.codeHdIn (He.frT h.get? (asC h.get? n)) (tabAt (He.frT h.get? (asC h.get? n)) (p.adr (He.frT h.get? (asC h.get? n)))).1
      (tabAt (He.frT h.get? (asC h.get? n)) (p.adr (He.frT h.get? (asC h.get? n)))).2 = true ∧
      ∃ o, h.get? (tabAt (He.frT h.get? (asC h.get? n)) (p.adr (He.frT h.get? (asC h.get? n)))).2 = some o ∧ He.emptyTab o = true := fun p hp => by
    obtain ⟨h3, h4⟩ := ba (List.all_eq_true.mp h2 p hp)
    refine ⟨h3, ?_⟩
    split at h4
    · rename_i o q
      exact ⟨o, q, h4⟩
    · cases h4
  refine ⟨h1, e2, fun p hp => (key p hp).1, fun p hp => ?_, fun p hp => ?_⟩
  · obtain ⟨_, o, q, z⟩ := key p hp
    exact He.frT_none q z
  · obtain ⟨_, o, q, z⟩ := key p hp
    rw [q, He.emptyTab_eq z]
def hookC (n : Nat) (y : Sys) : PySem.W.Hook where
  α := AlC
  obs := fun s => obsC n y s.heap.get?
  val := fun _ => valC y
  says := fun _ h => ∃ K : PySem.W.Frag, K.In h ∧ SaysC y h K
  of := fun _ _ e => ⟨_, He.frT_in, saysC_of e⟩
  keeps := fun _ _ _ ⟨K, hK, c⟩ k => ⟨K, PySem.W.Frag.In.keeps hK k, ⟨c.k, c.d, c.hd, c.out, fun p hp => k _ _ (c.empty p hp)⟩⟩
theorem obsC_eq {n : Nat} {y : Sys} {g : Addr → Option Obj} {s : Shared} (h : ∀ a, g a = s.heap.get? a) : obsC n y g = (hookC n y).obs s := by
  have e : g = s.heap.get? := funext h
  rw [e] <;> rfl
/-- what a proof of a def leans on -/
structure HD (y : Sys) (K : PySem.W.Frag) (mg : Str → Option Value) : Prop where
  gl : ∀ (x : Str) (v : Option Value), PySem.W.nsIn K mainGlobals x = some v → mg x = v
  k : obsK y K = true
  d : (y.fn.map fun d => fnWa K (d.at_.adr K)) = y.fn.map Df.val
section
variable {y : Sys} {K : PySem.W.Frag} {mg : Str → Option Value}
theorem HD.of {h : Heap} (X : K.In h) (G : h.Ns mainGlobals mg) (c : SaysC y h K) : HD y K mg := ⟨fun x v e => by
  cases v with
  | none => exact PySem.W.mg_none_of X G e
  | some u => exact PySem.W.mg_of X G e, c.k, c.d⟩
theorem HD.fact (S : HD y K mg) (i : Nat) {f : He.Fa} (h : y.fa[i]? = some f := by rfl) : f.ok K = true := List.all_eq_true.mp (ba S.k).1 f (List.mem_of_getElem? h)
theorem HD.fcc (S : HD y K mg) (i : Nat) {f : Fc} (h : y.fc[i]? = some f := by rfl) : f.ok K = true := List.all_eq_true.mp (ba (ba S.k).2).1 f (List.mem_of_getElem? h)
theorem HD.glo (S : HD y K mg) {x : Str} (h : (He.Fa.glo x).ok K = true) : mg x = some (.ref (ga K x)) := S.gl _ _ (He.eqO_ok h)
theorem HD.bfun (S : HD y K mg) {x : Str} {id : String} (h : (Fc.bfun x id).ok K = true) : mg x = some (.builtin id) := S.gl _ _ (He.eqO_ok h)
theorem HD.free (S : HD y K mg) {x : Str} (h : (He.Fa.free x).ok K = true) : mg x = none := S.gl _ _ (He.eqO_ok h)
theorem HD.def_ (S : HD y K mg) (i : Nat) {d : Df} (h : y.fn[i]? = some d := by rfl) :
    FunD K d.name d.qual (defArgs d.st) (defBody d.st) (defScope d.st) (d.dvs K) [] (d.at_.adr K) (fdAt K (d.at_.adr K)) := by
  have e2 : (y.fn.map fun d => fnWa K (d.at_.adr K))[i]? = (y.fn.map Df.val)[i]? := by rw [S.d]
  rw [List.getElem?_map, List.getElem?_map, h] at e2
  exact Df.funD (Option.some.inj e2) (List.all_eq_true.mp (ba (ba (ba S.k).2).2).1 d (List.mem_of_getElem? h))
theorem HD.apart (S : HD y K mg) : apartB (y.tf.map fun p => (tabAt K (p.adr K)).2) = true := (ba (ba (ba S.k).2).2).2
end

/-! ### callees in short: what a call of the name x, of a method, of a class asks -/
/-- f(..) by the module's name x -/
def Cl (P : Program) (w : World) (K : PySem.W.Frag) (mg : Str → Option Value) (base : Heap) (CX : CXT) (k : Nat) (x : Str) (sp : Sp) : Prop :=
  ∃ f fd ps, FnOk P w K mg base CX k f fd ps sp ∧ mg x = some (.ref f) ∧ PySem.W.keepIn K (.ref f) = true ∧ Binds K fd ps []
def ClG (P : Program) (w : World) (K : PySem.W.Frag) (mg : Str → Option Value) (base : Heap) (CX : CXT) (k : Nat) (x : Str) (sp : Sp) : Prop :=
  ∃ f fd ps, FnOkG P w K mg base CX k f fd ps sp ∧ mg x = some (.ref f) ∧ PySem.W.keepIn K (.ref f) = true ∧ Binds K fd ps []
/-- o.m(..), o an instance of C -/
def Me (P : Program) (w : World) (K : PySem.W.Frag) (mg : Str → Option Value) (base : Heap) (CX : CXT) (k : Nat) (C : Addr) (m : Str) (sp : Sp) : Prop :=
  ∃ f fd ps, FnOk P w K mg base CX k f fd ps sp ∧ Cls K C ∧ Meth K C m f ∧ Binds K fd ps []
/-- C(..) -/
def Mke (P : Program) (w : World) (K : PySem.W.Frag) (mg : Str → Option Value) (base : Heap) (CX : CXT) (k : Nat) (x : Str) (sp : Sp) : Prop :=
  ∃ f fd ps, FnOk P w K mg base CX k f fd ps sp ∧ Mk K (ga K x) f ∧ mg x = some (.ref (ga K x)) ∧ Binds K fd ps []
section
variable {X : Cx} {CX : CXT} {j k : Nat} {x m : Str} {C : Addr} {sp : Sp} {E : XK} {p pos apos : Pos} {e o : Expr} {es : List Expr} {t : TA} {ta : TE}
theorem pe_f (c : Cl X.prog X.w X.K X.mg X.base CX k x sp) (hr : Room j X.A) (hk : k ≤ j) (hx : Passes CX X E) (ha : PA X (e :: es) t) (hg : Gl X x := by rfl)
    (hdb : (x == ("__debug__" : Str)) = false := by decide) (he : starEach (e :: es) X.env = (false, eval e X.env) :: starEach es X.env := by rfl)
    (hpl : (backTo pos (starEach es X.env)).any (·.1) = false := by rfl) : PE X (.Call (.Name x p) (e :: es) [] pos) (tCall sp [] E t) := by
  obtain ⟨f, fd, ps, F, hm, kp, b⟩ := c
  exact pe_call F (hr.mono hk) hg hm kp b .nil hx ha hdb he hpl
theorem pe_fG (c : ClG X.prog X.w X.K X.mg X.base CX k x sp) (hr : Room j X.A) (hk : k ≤ j) (hgd : X.A.guards = some []) (hx : Passes CX X E) (ha : PA X (e :: es) t) (hg : Gl X x := by rfl)
    (hdb : (x == ("__debug__" : Str)) = false := by decide) (he : starEach (e :: es) X.env = (false, eval e X.env) :: starEach es X.env := by rfl)
    (hpl : (backTo pos (starEach es X.env)).any (·.1) = false := by rfl) : PE X (.Call (.Name x p) (e :: es) [] pos) (tCall sp [] E t) := by
  obtain ⟨f, fd, ps, F, hm, kp, b⟩ := c
  exact pe_callG F (hr.mono hk) hgd hg hm kp b .nil hx ha hdb he hpl
theorem pe_me {pl : Sem Bool} (c : Me X.prog X.w X.K X.mg X.base CX k C m sp) (hr : Room j X.A) (hk : k ≤ j) (hx : Passes CX X E) (ho : PE X o ta) (ha : PA X (e :: es) t)
    (hst : starEach (e :: es) X.env = (false, eval e X.env) :: starEach es X.env := by rfl) (hpl : (backTo pos (starEach es X.env)).any (·.1) = false := by rfl)
    (ht : eval (.Call (.Attribute o m apos) (e :: es) [] pos) X.env = (do
      let ov ← eval o X.env
      standAt apos.atName
      let (f, first) ← holding [ov] (getMethod ov m pl)
      callWith pos f first (backTo pos (starEach (e :: es) X.env)) (backToKw pos (keywordEach [] X.env))) := by rfl) :
    PE X (.Call (.Attribute o m apos) (e :: es) [] pos) (tMeth C m sp [] E ta t) := by
  obtain ⟨f, fd, ps, F, cl, hm, b⟩ := c
  exact pe_meth ho cl hm F (hr.mono hk) b .nil hx ha hst hpl ht
theorem pe_me0 {pl : Sem Bool} (c : Me X.prog X.w X.K X.mg X.base CX k C m sp) (hr : Room j X.A) (hk : k ≤ j) (hx : Passes CX X E) (ho : PE X o ta)
    (ht : eval (.Call (.Attribute o m apos) [] [] pos) X.env = (do
      let ov ← eval o X.env
      standAt apos.atName
      let (f, first) ← holding [ov] (getMethod ov m pl)
      callWith pos f first (backTo pos (starEach [] X.env)) (backToKw pos (keywordEach [] X.env))) := by rfl) :
    PE X (.Call (.Attribute o m apos) [] [] pos) (tMeth C m sp [] E ta tNil) := by
  obtain ⟨f, fd, ps, F, cl, hm, b⟩ := c
  exact pe_meth0 ho cl hm F (hr.mono hk) b .nil hx ht
theorem pe_mke (c : Mke X.prog X.w X.K X.mg X.base CX k x sp) (hr : Room j X.A) (hk : k + 1 ≤ j) (hx : Passes CX X E) (ha : PA X (e :: es) t) (hg : Gl X x := by rfl)
    (hdb : (x == ("__debug__" : Str)) = false := by decide) (he : starEach (e :: es) X.env = (false, eval e X.env) :: starEach es X.env := by rfl)
    (hpl : (backTo pos (starEach es X.env)).any (·.1) = false := by rfl) : PE X (.Call (.Name x p) (e :: es) [] pos) (tMake (ga X.K x) sp [] E t) := by
  obtain ⟨f, fd, ps, F, M, hm, b⟩ := c
  exact pe_make M F (hr.mono hk) hg hm b .nil hx ha hdb he hpl
end
end CT
namespace CT
open PySem PySem.Spec PyProof.Rows L2
open He (ga ma fAd)

/-! ### readings, step by step -/
section
variable {σ : St} {H : Hp} {Q : VK} {v : V} {D : Ends} {K : PySem.W.Frag}
theorem go_var {i : Nat} (h : σ[i]? = some (some v)) (k : Q v H) : tVar i σ H Q := ⟨v, h, k⟩
theorem go_c (k : Q v H) : tC v σ H Q := k
theorem go_op {r : R2} {ta tb : TE} (k : ta σ H fun x H1 => tb σ H1 fun y H2 => r x y H2 Q) : tOp r ta tb σ H Q := k
theorem go_un {r : V → Hp → VK → Prop} {ta : TE} (k : ta σ H fun x H1 => r x H1 Q) : tUn r ta σ H Q := k
theorem go_u {g : Int → V} {i : Int} (k : Q (g i) H) : rU g (.int i) H Q := ⟨i, rfl, k⟩
theorem go_i0 {g : Int → Int → V} {i j : Int} (k : Q (g i j) H) : rI0 g (.int i) (.int j) H Q := ⟨i, j, rfl, rfl, k⟩
theorem go_i {C : Int → Int → Prop} {g : Int → Int → V} {i j : Int} (c : C i j) (k : Q (g i j) H) : rI C g (.int i) (.int j) H Q := ⟨i, j, rfl, rfl, c, k⟩
theorem go_pow {i j r : Int} (c : CPow i j) (e : i ^ j.toNat = r) (k : Q (.int r) H) : rI CPow (fun i j => .int (i ^ j.toNat)) (.int i) (.int j) H Q := by
  subst e
  exact ⟨i, j, rfl, rfl, c, k⟩
theorem go_test {t : TE} {R : Bool → Hp → Prop} (k : t σ H fun x H' => ∃ k, x = .bl k ∧ R k H') : tTest t σ H R := k
theorem go_B {t : TE} {R : Bool → Hp → Prop} (k : t σ H fun x H' => ∃ k, x = .bl k ∧ R k H') : tB t σ H R := k
theorem go_k {b : Bool} {R : Bool → Prop} (k : R b) : ∃ k, V.bl b = .bl k ∧ R k := ⟨b, rfl, k⟩
theorem go_and {t u : TT} {R : Bool → Hp → Prop} (k : t σ H fun c H1 => if c = true then u σ H1 R else R false H1) : tAnd t u σ H R := k
theorem go_or {t u : TT} {R : Bool → Hp → Prop} (k : t σ H fun c H1 => if c = true then R true H1 else u σ H1 R) : tOr t u σ H R := k
theorem go_not {t : TT} {R : Bool → Hp → Prop} (k : t σ H fun c H1 => R (!c) H1) : tNot t σ H R := k
theorem go_andV {ta tb : TE} (k : ta σ H fun x H1 => ∃ c, x = .bl c ∧ if c = true then tb σ H1 Q else Q (.bl false) H1) : tAndV ta tb σ H Q := k
theorem go_orV {ta tb : TE} (k : ta σ H fun x H1 => ∃ c, x = .bl c ∧ if c = true then Q (.bl true) H1 else tb σ H1 Q) : tOrV ta tb σ H Q := k
theorem go_notV {ta : TE} (k : ta σ H fun x H1 => ∃ c, x = .bl c ∧ Q (.bl (!c)) H1) : tNotV ta σ H Q := k
theorem go_if {t : TT} {ta tb : TE} (k : t σ H fun c H1 => if c = true then ta σ H1 Q else tb σ H1 Q) : L2.tIf t ta tb σ H Q := k
theorem go_ifS {c : TT} {t u : TS} (k : c σ H fun b H1 => if b = true then t D σ H1 else u D σ H1) : tIfS c t u D σ H := k
theorem go_seq {t u : TS} (k : t { D with nx := u D } σ H) : tSeq t u D σ H := k
theorem go_next (k : D.nx σ H) : tNext D σ H := k
theorem go_asg {te : TE} {g : TG} (k : te σ H fun x H1 => g x σ H1 D.nx) : tAsg te g D σ H := k
theorem go_name {i : Nat} {σ' : St} {R : St → Hp → Prop} (h : σ.set i (some v) = σ') (k : R σ' H) : gName i v σ H R := by
  subst h
  exact k
theorem go_ret {te : TE} (k : te σ H D.rt) : tRet te D σ H := k
theorem go_retN (k : D.rt .non H) : tRetN D σ H := k
theorem go_drop {te : TE} (k : te σ H fun _ H1 => D.nx σ H1) : tDrop te D σ H := k
theorem go_call {sp : Sp} {E : XK} {t : TA} (k : t σ H fun vs H1 => sp (vs ++ []) H1 Q E) : tCall sp [] E t σ H Q := k
theorem go_cb {r : List V → Hp → VK → Prop} {t : TA} (k : t σ H fun vs H1 => r vs H1 Q) : tCB r t σ H Q := k
theorem go_nil {R : List V → Hp → Prop} (k : R [] H) : tNil σ H R := k
theorem go_cons {ta : TE} {tr : TA} {R : List V → Hp → Prop} (k : ta σ H fun x H1 => tr σ H1 fun xs H2 => R (x :: xs) H2) : tCons ta tr σ H R := k
def rNewL (xs : List V) (H : Hp) (Q : VK) : Prop := xs.length ≤ sizeLine ∧ ∀ p, H p = none → Q (.ref p) (upd H p (.lst xs))
def rNewT (xs : List V) (H : Hp) (Q : VK) : Prop := xs.length ≤ sizeLine ∧ ∀ p, H p = none → Q (.ref p) (upd H p (.tup xs))
theorem go_lst {t : TA} (k : t σ H fun xs H1 => rNewL xs H1 Q) : tLst t σ H Q := k
theorem go_tup {t : TA} (k : t σ H fun xs H1 => rNewT xs H1 Q) : tTup t σ H Q := k
theorem newL_raw {xs : List V} (h : xs.length ≤ 1000) (k : ∀ p, H p = none → Q (.ref p) (upd H p (.lst xs))) : rNewL xs H Q := ⟨Nat.le_of_lt (small1000 h), k⟩
theorem newT_raw {xs : List V} (h : xs.length ≤ 1000) (k : ∀ p, H p = none → Q (.ref p) (upd H p (.tup xs))) : rNewT xs H Q := ⟨Nat.le_of_lt (small1000 h), k⟩
theorem go_sz {n : Nat} {R : Addr → Prop} (h : n ≤ 1000) (k : ∀ p, H p = none → R p) : n ≤ sizeLine ∧ ∀ p, H p = none → R p := ⟨Nat.le_of_lt (small1000 h), k⟩
def rFld (K : PySem.W.Frag) (f : Str) (x : V) (H : Hp) (Q : VK) : Prop := ∃ a C dx fs v, x = .ref a ∧ H a = some (.ins C dx fs) ∧ Cls K C ∧ NoAttr K C f ∧ fs.lookup f = some v ∧ Q v H
theorem go_fld {ta : TE} {f : Str} (k : ta σ H fun x H1 => rFld K f x H1 Q) : tFld K ta f σ H Q := k
def par2 (i j : Nat) (σ : St) (vs : List V) (R : St → Prop) : Prop := ∃ v w, vs = [v, w] ∧ R ((σ.set i (some v)).set j (some w))
theorem go_par {i j : Nat} {ta : TA} (k : ta σ H fun vs H1 => par2 i j σ vs fun σ' => D.nx σ' H1) : tPar i j ta D σ H := k
theorem go_par2 {i j : Nat} {u w : V} {σ' : St} {R : St → Prop} (h : (σ.set i (some u)).set j (some w) = σ') (k : R σ') : par2 i j σ [u, w] R := by
  subst h
  exact ⟨u, w, rfl, k⟩
theorem go_start {σ' : St} {t : TS} (e : σ = σ') (h : t D σ' H) : t D σ H := by
  subst e
  exact h
theorem cxOf_K {CX : CXT} {P : Program} {w : World} {mg : Str → Option Value} {base : Heap} {N : List Str} {qual : Str} {scope : Scope} {f : Addr} {cd : Value} {A : Around} {outer : List Env} {s : Shared} {E : XK} :
    (cxOf CX P w K mg base N qual scope f cd A outer s H E).K = K := rfl
theorem go_slL {te : TE} {tl th : TO} {p : Addr} {xs : List V} (k : te σ H fun x H1 => tl σ H1 fun l H2 => th σ H2 fun u H3 => rSlL K x l u H3 Q) : tSl (rSlL K) te tl th σ H Q := k
theorem go_part {t : TE} {R : Option Int → Hp → Prop} (k : t σ H fun x H1 => ∃ i, x = .int i ∧ R (some i) H1) : tPart t σ H R := k
theorem go_i1 {i : Int} {R : Int → Prop} (k : R i) : ∃ j, V.int i = .int j ∧ R j := ⟨i, rfl, k⟩
theorem go_nopart {R : Option Int → Hp → Prop} (k : R none H) : tNoPart σ H R := k
theorem go_sl {r : V → Option Int → Option Int → Hp → VK → Prop} {te : TE} {tl th : TO} (k : te σ H fun x H1 => tl σ H1 fun l H2 => th σ H2 fun u H3 => r x l u H3 Q) : tSl r te tl th σ H Q := k
theorem go_rsl {a : Addr} {lo hi : Option Int} {xs : List V} (h : SqL K H a xs) (k : ∀ p, H p = none → Q (.ref p) (upd H p (.lst (cutV xs lo hi)))) : rSlL K (.ref a) lo hi H Q := ⟨a, xs, rfl, h, k⟩
theorem go_isi {x c : V} {u t : Value} {b : Bool} (h : ClsV c u) (ty : TyX K H x t) (e : PySem.W.kitOne K t u = some b) (k : Q (.bl b) H) : rIsi K [x, c] H Q := ⟨x, c, t, u, b, rfl, h, ty, e, k⟩
theorem bl_of {R : V → Prop} {x y : Bool} (e : x = y) (k : R (.bl y)) : R (.bl x) := e ▸ k
theorem int_of {R : V → Prop} {x y : Int} (e : x = y) (k : R (.int y)) : R (.int x) := e ▸ k
theorem go_fldx {a C dx : Addr} {fs : List (Str × V)} {f : Str} (h : H a = some (.ins C dx fs)) (c : Cls K C) (n : NoAttr K C f) (l : fs.lookup f = some v) (k : Q v H) : rFld K f (.ref a) H Q := ⟨a, C, dx, fs, v, rfl, h, c, n, l, k⟩
def rLstOf (K : PySem.W.Frag) : List V → Hp → VK → Prop := fun xs H Q => ∃ p ys, xs = [.ref p] ∧ (SqL K H p ys ∨ SqT K H p ys) ∧ ∀ l, H l = none → Q (.ref l) (upd H l (.lst ys))
theorem go_cbLst {t : TA} (k : t σ H fun vs H1 => rLstOf K vs H1 Q) : tCB (fun xs H Q => ∃ p ys, xs = [.ref p] ∧ (SqL K H p ys ∨ SqT K H p ys) ∧ ∀ l, H l = none → Q (.ref l) (upd H l (.lst ys))) t σ H Q := k
theorem go_lstof {a : Addr} {ys : List V} (h : SqL K H a ys ∨ SqT K H a ys) (k : ∀ l, H l = none → Q (.ref l) (upd H l (.lst ys))) : rLstOf K [.ref a] H Q := ⟨a, ys, rfl, h, k⟩
def rLen (K : PySem.W.Frag) : List V → Hp → VK → Prop := fun xs H Q => ∃ p ys, xs = [.ref p] ∧ (SqL K H p ys ∨ SqT K H p ys) ∧ Q (.int ys.length) H
theorem go_cbLen {t : TA} (k : t σ H fun vs H1 => rLen K vs H1 Q) : tCB (fun xs H Q => ∃ p ys, xs = [.ref p] ∧ (SqL K H p ys ∨ SqT K H p ys) ∧ Q (.int ys.length) H) t σ H Q := k
theorem go_len {a : Addr} {ys : List V} (h : SqL K H a ys ∨ SqT K H a ys) (k : Q (.int ys.length) H) : rLen K [.ref a] H Q := ⟨a, ys, rfl, h, k⟩
def rIntOf : List V → Hp → VK → Prop := fun xs H Q => (∃ i, xs = [.int i] ∧ Q (.int i) H) ∨ ∃ k, xs = [.bl k] ∧ Q (.int (if k = true then 1 else 0)) H
theorem go_cbInt {t : TA} (k : t σ H fun vs H1 => rIntOf vs H1 Q) : tCB (fun xs H Q => (∃ i, xs = [.int i] ∧ Q (.int i) H) ∨ ∃ k, xs = [.bl k] ∧ Q (.int (if k = true then 1 else 0)) H) t σ H Q := k
theorem go_int {i : Int} (k : Q (.int i) H) : rIntOf [.int i] H Q := .inl ⟨i, rfl, k⟩
theorem go_intb {b : Bool} (k : Q (.int (if b = true then 1 else 0)) H) : rIntOf [.bl b] H Q := .inr ⟨b, rfl, k⟩
def rBoolOf : List V → Hp → VK → Prop := fun xs H Q => (∃ i, xs = [.int i] ∧ Q (.bl (i != 0)) H) ∨ ∃ k, xs = [.bl k] ∧ Q (.bl k) H
theorem go_cbBool {t : TA} (k : t σ H fun vs H1 => rBoolOf vs H1 Q) : tCB (fun xs H Q => (∃ i, xs = [.int i] ∧ Q (.bl (i != 0)) H) ∨ ∃ k, xs = [.bl k] ∧ Q (.bl k) H) t σ H Q := k
theorem go_booli {i : Int} (k : Q (.bl (i != 0)) H) : rBoolOf [.int i] H Q := .inl ⟨i, rfl, k⟩
theorem go_boolb {b : Bool} (k : Q (.bl b) H) : rBoolOf [.bl b] H Q := .inr ⟨b, rfl, k⟩
def rAbs : List V → Hp → VK → Prop := fun xs H Q => ∃ i, xs = [.int i] ∧ Q (.int (if i < 0 then -i else i)) H
theorem go_cbAbs {t : TA} (k : t σ H fun vs H1 => rAbs vs H1 Q) : tCB (fun xs H Q => ∃ i, xs = [.int i] ∧ Q (.int (if i < 0 then -i else i)) H) t σ H Q := k
theorem go_abs {i : Int} (k : Q (.int (if i < 0 then -i else i)) H) : rAbs [.int i] H Q := ⟨i, rfl, k⟩
def rMax2 : List V → Hp → VK → Prop := fun xs H Q => ∃ i j, xs = [.int i, .int j] ∧ Q (.int (if i < j then j else i)) H
theorem go_cbMax {t : TA} (k : t σ H fun vs H1 => rMax2 vs H1 Q) : tCB (fun xs H Q => ∃ i j, xs = [.int i, .int j] ∧ Q (.int (if j > i then j else i)) H) t σ H Q := k
theorem go_max {i j : Int} (k : Q (.int (if i < j then j else i)) H) : rMax2 [.int i, .int j] H Q := ⟨i, j, rfl, k⟩
def rMin2 : List V → Hp → VK → Prop := fun xs H Q => ∃ i j, xs = [.int i, .int j] ∧ Q (.int (if j < i then j else i)) H
theorem go_cbMin {t : TA} (k : t σ H fun vs H1 => rMin2 vs H1 Q) : tCB (fun xs H Q => ∃ i j, xs = [.int i, .int j] ∧ Q (.int (if j < i then j else i)) H) t σ H Q := k
theorem go_min {i j : Int} (k : Q (.int (if j < i then j else i)) H) : rMin2 [.int i, .int j] H Q := ⟨i, j, rfl, k⟩
theorem go_dec {c A B : Prop} [Decidable c] (h1 : c → A) (h2 : ¬ c → B) : if decide c = true then A else B := by
  by_cases h : c
  · rw [decide_eq_true h]
    exact iteT (h1 h)
  · rw [decide_eq_false h]
    exact iteF (h2 h)
theorem go_ndec {c A B : Prop} [Decidable c] (h1 : ¬ c → A) (h2 : c → B) : if (!decide c) = true then A else B := by
  by_cases h : c
  · rw [decide_eq_true h]
    exact iteF (h2 h)
  · rw [decide_eq_false h]
    exact iteT (h1 h)
theorem go_b {b : Bool} {A B : Prop} (h1 : b = true → A) (h2 : b = false → B) : if b = true then A else B := by
  cases b
  · exact iteF (h2 rfl)
  · exact iteT (h1 rfl)
theorem go_nb {b : Bool} {A B : Prop} (h1 : b = false → A) (h2 : b = true → B) : if (!b) = true then A else B := by
  cases b
  · exact iteT (h1 rfl)
  · exact iteF (h2 rfl)
theorem go_nT {A B : Prop} (k : B) : if (!true) = true then A else B := iteF k
theorem go_nF {A B : Prop} (k : A) : if (!false) = true then A else B := iteT k
theorem go_seqR {t u : TS} (R : St → Hp → Prop) (h : ∀ σ' H', R σ' H' → u D σ' H') (k : (∀ σ' H', R σ' H' → u D σ' H') → t { D with nx := u D } σ H) : tSeq t u D σ H := k h
theorem go_setL {p : Addr} {xs xs' : List V} {i : Int} {j : Nat} {R : Hp → Prop} (h : H p = some (.lst xs)) (ij : ixN xs.length i = some j) (e : xs.set j v = xs') (k : R (upd H p (.lst xs'))) :
    rSetL (.ref p) (.int i) v H R := by
  subst e
  exact ⟨p, xs, i, j, rfl, rfl, h, ij, k⟩
theorem go_sub {to ti : TE} {t : TSet} {R : St → Hp → Prop} (k : to σ H fun o H1 => ti σ H1 fun i H2 => t o i v H2 fun H3 => R σ H3) : gSub to ti t v σ H R := k
theorem go_ixl {p : Addr} {xs : List V} {i : Int} (h : SqL K H p xs) (a : atI xs i = some v) (k : Q v H) : rIxL K (.ref p) (.int i) H Q := ⟨p, xs, i, v, rfl, rfl, h, a, k⟩
theorem go_ixt {p : Addr} {xs : List V} {i : Int} (h : SqT K H p xs) (a : atI xs i = some v) (k : Q v H) : rIxT K (.ref p) (.int i) H Q := ⟨p, xs, i, v, rfl, rfl, h, a, k⟩
theorem go_eq {x y : V} (s : scal x y = true) (k : Q (.bl (decide (x = y))) H) : rEq x y H Q := ⟨s, k⟩
theorem go_ne {x y : V} (s : scal x y = true) (k : Q (.bl (!decide (x = y))) H) : rNe x y H Q := ⟨s, k⟩
theorem go_chain {r r' : R2} {ta tb tc : TE} (k : ta σ H fun x H1 => tb σ H1 fun y H2 => r x y H2 fun z H3 => ∃ k, z = .bl k ∧ (if k = true then tc σ H3 fun w' H4 => r' y w' H4 Q else Q (.bl false) H3)) : tChain r r' ta tb tc σ H Q := k
theorem go_inc {W P : Prop} (k : P) (h : P → W) : W := h k
end

/-! ### what stays -/
/-- all that was tracked is as it was, but for what stands at p -/
def Kp (p : Addr) (H H' : Hp) : Prop := ∀ b o, H b = some o → b ≠ p → H' b = some o
theorem Kp.refl (p : Addr) (H : Hp) : Kp p H H := fun _ _ h _ => h
theorem Kp.trans {p : Addr} {H H1 H2 : Hp} (a : Kp p H H1) (b : Kp p H1 H2) : Kp p H H2 := fun c o h n => b c o (a c o h n) n
theorem Kp.new {p q : Addr} {H : Hp} {o : HO} (n : H q = none) : Kp p H (upd H q o) := fun b u h _ => (upd_ne (ne_of_none h n)).trans h
theorem Kp.put {p : Addr} {H : Hp} {o : HO} : Kp p H (upd H p o) := fun b u h n => (upd_ne n).trans h
theorem Same.kp {p : Addr} {H H' : Hp} (s : Same H H') : Kp p H H' := fun b o h _ => s b o h
theorem Kp.seqL {p a : Addr} {K : PySem.W.Frag} {H H' : Hp} {xs : List V} (e : Kp p H H') (h : SqL K H a xs) (n : a ≠ p) : SqL K H' a xs := by
  rcases h with (h | ⟨o, h⟩) | h
  · exact .inl (.inl (e _ _ h n))
  · exact .inl (.inr ⟨o, e _ _ h n⟩)
  · exact .inr h
theorem Kp.seqT {p a : Addr} {K : PySem.W.Frag} {H H' : Hp} {xs : List V} (e : Kp p H H') (h : SqT K H a xs) (n : a ≠ p) : SqT K H' a xs := by
  rcases h with (h | ⟨o, h⟩) | h
  · exact .inl (.inl (e _ _ h n))
  · exact .inl (.inr ⟨o, e _ _ h n⟩)
  · exact .inr h
theorem upd_here {H : Hp} {p : Addr} {o : HO} (_ : H p = none) : upd H p o p = some o := upd_same
theorem upd_keep {H : Hp} {p b : Addr} {o u : HO} (n : H p = none) (h : H b = some u) : upd H p o b = some u := (upd_ne (ne_of_none h n)).trans h
theorem same_at {H H' : Hp} {a : Addr} {o : HO} (s : Same H H') (h : H a = some o) : H' a = some o := s a o h
theorem kp_at {p : Addr} {H H' : Hp} {a : Addr} {o : HO} (s : Kp p H H') (n : a ≠ p) (h : H a = some o) : H' a = some o := s a o h n
theorem upd_at {H : Hp} {l a : Addr} {o u : HO} (n : a ≠ l) (h : H a = some o) : upd H l u a = some o := (upd_ne n).trans h
theorem Same.new {q : Addr} {H : Hp} {o : HO} (n : H q = none) : Same H (upd H q o) := fun b u h => upd_keep n h

theorem HD.int {y : Sys} {K : PySem.W.Frag} {mg : Str → Option Value} (S : HD y K mg) {x : Str} {i : Int} (c : (He.Fa.int x i).ok K = true) : ∃ t, mg x = some (.int i t) := by
  have c2 : (match PySem.W.nsIn K mainGlobals x with
    | some (some (.int j _)) => decide (j = i)
    | _ => false) = true := c
  split at c2
  · rename_i j t e
    have ej : j = i := of_decide_eq_true c2
    subst ej
    exact ⟨t, S.gl _ _ e⟩
  · cases c2

/-! ### operators and properties by bundles; calls without arguments -/
def Op (P : Program) (w : World) (K : PySem.W.Frag) (mg : Str → Option Value) (base : Heap) (CX : CXT) (k : Nat) (C : Addr) (m : Str) (sp : Sp) : Prop :=
  ∃ f fd ps, FnOk P w K mg base CX k f fd ps sp ∧ PySem.W.findIn K (.ref C) m = some (some (.ref f)) ∧ PySem.W.isFn K (.ref f) = true ∧ Binds K fd ps []
def Pr (P : Program) (w : World) (K : PySem.W.Frag) (mg : Str → Option Value) (base : Heap) (CX : CXT) (k : Nat) (C : Addr) (m : Str) (sp : Sp) : Prop :=
  ∃ p f fd ps, FnOk P w K mg base CX k f fd ps sp ∧ Cls K C ∧ PropOf K C m p f ∧ Binds K fd ps []
section
variable {X : Cx} {CX : CXT} {j k : Nat} {x m : Str} {C : Addr} {sp : Sp} {E : XK} {p pos apos : Pos} {e o : Expr} {es : List Expr} {t : TA} {ta : TE}
theorem op_own {op : CmpOp} (c : Op X.prog X.w X.K X.mg X.base CX k C (cmpInfo op).2.1 sp) (hop : ∀ a b, compareOp op a b = richCompare op a b) (hr : Room j X.A) (hk : k ≤ j) (hx : Passes CX X E) :
    OpR X (compareOp op) (rOwnC X.K C sp E) := by
  obtain ⟨f, fd, ps, F, h1, h2, b⟩ := c
  exact op_ownC hop h1 h2 F b (hr.mono hk) hx
theorem op_neq (c : Op X.prog X.w X.K X.mg X.base CX k C "__eq__" sp) (hne : PySem.W.findIn X.K (.ref C) "__ne__" = some (some (.builtin "object.__ne__"))) (hm : PySem.W.mroIn X.K C (.type "object") = some true)
    (hr : Room j X.A) (hk : k + 1 ≤ j) (hx : Passes CX X E) : OpR X (compareOp .NotEq) (rNeC X.K C sp E) := by
  obtain ⟨f, fd, ps, F, h1, h2, b⟩ := c
  exact op_neC hne hm h1 h2 F b (hr.mono hk) hx
theorem pe_f0 (c : Cl X.prog X.w X.K X.mg X.base CX k x sp) (hr : Room j X.A) (hk : k ≤ j) (hx : Passes CX X E) (hg : Gl X x := by rfl) (hdb : (x == ("__debug__" : Str)) = false := by decide) :
    PE X (.Call (.Name x p) [] [] pos) (tCall sp [] E tNil) := by
  obtain ⟨f, fd, ps, F, hm, kp, b⟩ := c
  exact pe_call0 F (hr.mono hk) hg hm kp b .nil hx hdb
theorem pe_prp (c : Pr X.prog X.w X.K X.mg X.base CX k C m sp) (hr : Room j X.A) (hk : k + 1 ≤ j) (hx : Passes CX X.nox E) (he : PE X e ta)
    (hab : attributeBase e m X.env (eval e X.env) = eval e X.env := by rfl) : PE X (.Attribute e m pos) (tProp C sp [] E ta) := by
  obtain ⟨q, f, fd, ps, F, cl, hp, b⟩ := c
  exact pe_prop he cl hp F (hr.mono hk) b .nil hx hab
end

/-! ### new objects, the heap behind them by a letter -/
section
variable {H : Hp} {Q : VK} {K : PySem.W.Frag}
theorem newL {xs : List V} (h : xs.length ≤ 1000) (k : ∀ p H', H p = none → Same H H' → H' p = some (.lst xs) → Q (.ref p) H') : rNewL xs H Q := newL_raw h fun p n => k p _ n (Same.new n) upd_same
theorem newT {xs : List V} (h : xs.length ≤ 1000) (k : ∀ p H', H p = none → Same H H' → H' p = some (.tup xs) → Q (.ref p) H') : rNewT xs H Q := newT_raw h fun p n => k p _ n (Same.new n) upd_same
theorem newSl {a : Addr} {lo hi : Option Int} {xs ys : List V} (h : SqL K H a xs) (e : cutV xs lo hi = ys) (k : ∀ p H', H p = none → Same H H' → H' p = some (.lst ys) → Q (.ref p) H') : rSlL K (.ref a) lo hi H Q := by
  subst e
  exact ⟨a, xs, rfl, h, fun p n => k p _ n (Same.new n) upd_same⟩
theorem newLstOf {a : Addr} {ys : List V} (h : SqL K H a ys ∨ SqT K H a ys) (k : ∀ l H', H l = none → Same H H' → H' l = some (.lst ys) → Q (.ref l) H') : rLstOf K [.ref a] H Q := ⟨a, ys, rfl, h, fun p n => k p _ n (Same.new n) upd_same⟩
theorem newCat {a b : Addr} {xs ys zs : List V} (ha : H a = some (.lst xs)) (hb : H b = some (.lst ys)) (sz : zs.length ≤ 100000) (e : xs ++ ys = zs) (k : ∀ l H', H l = none → Same H H' → H' l = some (.lst zs) → Q (.ref l) H') : rCat (.ref a) (.ref b) H Q := by
  subst e
  rw [List.length_append] at sz
  exact ⟨a, b, xs, ys, rfl, rfl, ha, hb, Nat.le_trans sz (by decide), fun p n => k p _ n (Same.new n) upd_same⟩
end

/-! ### fields -/
theorem lk_here {k : Str} {v : V} {r : List (Str × V)} : List.lookup k ((k, v) :: r) = some v := by
  have e : (k == k) = true := beq_self_eq_true k
  simp only [List.lookup, e]
theorem lk_skip {k g : Str} {v w : V} {r : List (Str × V)} (h : (k == g) = false) (q : List.lookup k r = some v) : List.lookup k ((g, w) :: r) = some v := by
  simp only [List.lookup, h]
  exact q
theorem lk_nil {k : Str} : List.lookup k ([] : List (Str × V)) = none := rfl
theorem lk_no {k g : Str} {w : V} {r : List (Str × V)} (h : (k == g) = false) (q : List.lookup k r = none) : List.lookup k ((g, w) :: r) = none := by
  simp only [List.lookup, h]
  exact q
theorem put_nil {f : Str} {v : V} : putF f v [] = [(f, v)] := rfl
theorem put_here {f : Str} {v x : V} {r : List (Str × V)} : putF f v ((f, x) :: r) = (f, v) :: r := if_pos rfl
theorem put_skip {f g : Str} {v x : V} {r r' : List (Str × V)} (h : ¬ g = f) (q : putF f v r = r') : putF f v ((g, x) :: r) = (g, x) :: r' := (if_neg h).trans (congrArg _ q)
def rSFld (K : PySem.W.Frag) (f : Str) (y x : V) (H : Hp) (R : Hp → Prop) : Prop := ∃ a C dx fs, x = .ref a ∧ H a = some (.ins C dx fs) ∧ Cls K C ∧ NoAttr K C f ∧ fs.length < 1000 ∧ R (upd H a (.ins C dx (putF f y fs)))
theorem go_sfld {K : PySem.W.Frag} {σ : St} {H : Hp} {D : Ends} {ta tv : TE} {f : Str} (k : tv σ H fun y H1 => ta σ H1 fun x H2 => rSFld K f y x H2 (D.nx σ)) : sFld K ta tv f D σ H := k
theorem go_sfldx {K : PySem.W.Frag} {H : Hp} {a C dx : Addr} {fs fs' : List (Str × V)} {f : Str} {y : V} {R : Hp → Prop} (h : H a = some (.ins C dx fs)) (c : Cls K C) (n : NoAttr K C f) (e : putF f y fs = fs') (l : fs.length < 1000)
    (k : R (upd H a (.ins C dx fs'))) : rSFld K f y (.ref a) H R := by
  subst e
  exact ⟨a, C, dx, fs, rfl, h, c, n, l, k⟩

def rCVal (K : PySem.W.Frag) (f : Str) (x : V) (H : Hp) (Q : VK) : Prop := ∃ C mc v u, x = .ref C ∧ ClX.CRead K C mc ∧ ClX.CVal K C mc f v u ∧ Q v H
theorem go_cval {K : PySem.W.Frag} {σ : St} {H : Hp} {Q : VK} {ta : TE} {f : Str} (k : ta σ H fun x H1 => rCVal K f x H1 Q) : ClX.tCVal K ta f σ H Q := k
theorem go_cvalx {K : PySem.W.Frag} {H : Hp} {Q : VK} {C : Addr} {mc u : Value} {v : V} {f : Str} (c : ClX.CRead K C mc) (d : ClX.CVal K C mc f v u) (k : Q v H) : rCVal K f (.ref C) H Q := ⟨C, mc, v, u, rfl, c, d, k⟩

/-! ### data of numbers -/
theorem dpInts {K : PySem.W.Frag} {H : Hp} : ∀ ns : List Int, DpAll K H (ns.map V.int) (ns.map PyData.int)
  | [] => .nil
  | n :: ns => .cons (.int n) (dpInts ns)
theorem layInts : ∀ ns : List Int, PyData.canLayAll0 (ns.map PyData.int) = true
  | [] => rfl
  | n :: ns => by
    show PyData.canLayAll0 (PyData.int n :: ns.map PyData.int) = true
    rw [PyData.canLayAll0, layInts ns]
    rfl
theorem depthInts : ∀ ns : List Int, PyData.depthAll (ns.map PyData.int) ≤ 1
  | [] => by decide
  | n :: ns => by
    have h := depthInts ns
    show PyData.depthAll (PyData.int n :: ns.map PyData.int) ≤ 1
    rw [PyData.depthAll]
    have e : (PyData.int n).depth ≤ 1 := by rw [PyData.depth]; omega
    omega
theorem shInts (ns : List Int) : SeqAt.shaped (.list (ns.map PyData.int)) = true := by
  unfold SeqAt.shaped
  rw [PyData.canLay0, layInts, PyData.depth]
  have := depthInts ns
  simp
  omega
theorem eqvInts : ∀ ns ms : List Int, PyData.eqvAll (ns.map PyData.int) (ms.map PyData.int) = decide (ns = ms)
  | [], [] => by rw [List.map_nil, PyData.eqvAll]; rfl
  | [], _ :: _ => by rw [List.map_nil, List.map_cons, PyData.eqvAll]; rfl
  | _ :: _, [] => by rw [List.map_nil, List.map_cons, PyData.eqvAll]; rfl
  | n :: ns, m :: ms => by
    rw [List.map_cons, List.map_cons, PyData.eqvAll, eqvInts ns ms, PyData.eqv]
    by_cases h : n = m
    · by_cases h2 : ns = ms
      · subst h h2; simp
      · simp [h, h2]
    · simp [h]
theorem go_neInts {K : PySem.W.Frag} {H : Hp} {Q : VK} {a b : Addr} {ns ms : List Int} (ha : SqL K H a (ns.map V.int)) (hb : SqL K H b (ms.map V.int)) (k : Q (.bl (!decide (ns = ms))) H) :
    rNeD K (.ref a) (.ref b) H Q := by
  refine ⟨_, _, .lst ha (dpInts ns), .lst hb (dpInts ms), shInts ns, shInts ms, ?_⟩
  rw [PyData.eqv, eqvInts]
  exact k
theorem go_eqInts {K : PySem.W.Frag} {H : Hp} {Q : VK} {a b : Addr} {ns ms : List Int} (ha : SqL K H a (ns.map V.int)) (hb : SqL K H b (ms.map V.int)) (k : Q (.bl (decide (ns = ms))) H) :
    rEqD K (.ref a) (.ref b) H Q := by
  refine ⟨_, _, .lst ha (dpInts ns), .lst hb (dpInts ms), shInts ns, shInts ms, ?_⟩
  rw [PyData.eqv, eqvInts]
  exact k
theorem atI_mod {α : Type} {xs : List α} {i : Int} (h0 : 0 ≤ i) (h1 : i < xs.length) : ∃ v, atI xs i = some v ∧ v ∈ xs := by
  obtain ⟨j, rfl⟩ := Int.eq_ofNat_of_zero_le h0
  have hj : j < xs.length := by omega
  exact ⟨xs[j], atI_nat (by simp [hj]), List.getElem_mem hj⟩

theorem mixOk {x b c1 c2 c3 : Int} (h0 : 0 ≤ x) (h1 : x < 4294967296) (b0 : 0 ≤ b) (b1 : b ≤ 1000000) (d1 : 0 ≤ c1) (e1 : c1 ≤ 1000000) (d2 : 0 ≤ c2) (e2 : c2 ≤ 1000000) (d3 : 0 ≤ c3) (e3 : c3 ≤ 1000000) :
    (x * (2 * b + c1) + c2 * b * b + c3).natAbs < 2 ^ 64 := by
  have u : x * (2 * b + c1) ≤ 4294967296 * 3000000 := Int.mul_le_mul (by omega) (by omega) (by omega) (by omega)
  have u0 : 0 ≤ x * (2 * b + c1) := Int.mul_nonneg h0 (by omega)
  have v : c2 * b ≤ 1000000 * 1000000 := Int.mul_le_mul e2 b1 b0 (by omega)
  have v0 : 0 ≤ c2 * b := Int.mul_nonneg d2 b0
  have w : c2 * b * b ≤ 1000000 * 1000000 * 1000000 := Int.mul_le_mul v b1 b0 (by omega)
  have w0 : 0 ≤ c2 * b * b := Int.mul_nonneg v0 b0
  omega

theorem cut_upto (xs : List V) (k : Nat) : cutV xs none (some (k : Int)) = xs.take k := by
  unfold cutV
  rw [HT.sIx_nat, HT.sIx_none, List.drop_zero, Nat.sub_zero]
  by_cases h : k ≤ xs.length
  · rw [Nat.min_eq_left h]
  · rw [Nat.min_eq_right (by omega), List.take_length, List.take_of_length_le (by omega)]
theorem cut_from (xs : List V) (k : Nat) : cutV xs (some (k : Int)) none = xs.drop k := by
  unfold cutV
  rw [HT.sIx_nat, HT.sIx_none]
  by_cases h : k ≤ xs.length
  · rw [Nat.min_eq_left h, List.take_of_length_le (by rw [List.length_drop]; omega)]
  · rw [Nat.min_eq_right (by omega), List.drop_length, List.take_nil, List.drop_of_length_le (by omega)]

/-! ### rules whose reading names the written part: told of a part that is the same -/
theorem opk {X : Cx} {f : Value → Value → Sem Value} {r : PySem.W.Frag → R2} {K' : PySem.W.Frag} (h : X.K = K') (o : OpR X f (r X.K)) : OpR X f (r K') := by
  subst h
  exact o
theorem ixk {X : Cx} {r : PySem.W.Frag → R2} {K' : PySem.W.Frag} (h : X.K = K') (o : IxR X (r X.K)) : IxR X (r K') := by
  subst h
  exact o
theorem cak {X : Cx} {f : Value} {r : PySem.W.Frag → List V → Hp → VK → Prop} {K' : PySem.W.Frag} (h : X.K = K') (o : CallR X f (r X.K)) : CallR X f (r K') := by
  subst h
  exact o
theorem pe_fldk {X : Cx} {e : Expr} {f : Str} {pos : Pos} {ta : TE} {K' : PySem.W.Frag} (h : X.K = K') (he : PE X e ta) (hb : attributeBase e f X.env (eval e X.env) = eval e X.env) : PE X (.Attribute e f pos) (tFld K' ta f) := by
  subst h
  exact pe_fld he hb

theorem tyIns {K : PySem.W.Frag} {H : Hp} {a C dx : Addr} {fs : List (Str × V)} (c : InsC K C) (h : H a = some (.ins C dx fs)) : TyX K H (.ref a) (.ref C) := .base (.ins h c.cl c.ha c.hn c.ht c.hm)
theorem go_own {K : PySem.W.Frag} {H : Hp} {Q : VK} {a C dx : Addr} {fs : List (Str × V)} {sp : Sp} {E : XK} {y : V} {t : Value} (h : H a = some (.ins C dx fs)) (ty : TyX K H y t) (n : PySem.W.notFirst K C t = true) (k : sp [.ref a, y] H Q E) :
    rOwnC K C sp E (.ref a) y H Q := ⟨a, dx, fs, t, rfl, h, ty, n, k⟩
theorem go_nec {K : PySem.W.Frag} {H : Hp} {Q : VK} {a C dx : Addr} {fs : List (Str × V)} {sp : Sp} {E : XK} {y : V} {t : Value} (h : H a = some (.ins C dx fs)) (ty : TyX K H y t) (n : PySem.W.notFirst K C t = true)
    (k : sp [.ref a, y] H (fun v H' => ∃ r, v = .bl r ∧ Q (.bl (!r)) H') E) : rNeC K C sp E (.ref a) y H Q := ⟨a, dx, fs, t, rfl, h, ty, n, k⟩

theorem op_ownk {X : Cx} {CX : CXT} {j k : Nat} {C : Addr} {sp : Sp} {E : XK} {op : CmpOp} {K' : PySem.W.Frag} (h : X.K = K') (c : Op X.prog X.w X.K X.mg X.base CX k C (cmpInfo op).2.1 sp) (hop : ∀ a b, compareOp op a b = richCompare op a b) (hr : Room j X.A) (hk : k ≤ j)
    (hx : Passes CX X E) : OpR X (compareOp op) (rOwnC K' C sp E) := by
  subst h
  exact op_own c hop hr hk hx
theorem op_neqk {X : Cx} {CX : CXT} {j k : Nat} {C : Addr} {sp : Sp} {E : XK} {K' : PySem.W.Frag} (h : X.K = K') (c : Op X.prog X.w X.K X.mg X.base CX k C "__eq__" sp) (hne : PySem.W.findIn X.K (.ref C) "__ne__" = some (some (.builtin "object.__ne__"))) (hm : PySem.W.mroIn X.K C (.type "object") = some true)
    (hr : Room j X.A) (hk : k + 1 ≤ j) (hx : Passes CX X E) : OpR X (compareOp .NotEq) (rNeC K' C sp E) := by
  subst h
  exact op_neq c hne hm hr hk hx

/-! ### great numbers -/
theorem log_lt {i : Int} {k : Nat} (h : i.natAbs < 2 ^ k) (hk : 0 < k) : i.natAbs.log2 < k := by
  by_cases z : i.natAbs = 0
  · rw [z]
    exact hk
  · exact (Nat.log2_lt z).mpr h
theorem divW {i j : Int} (h0 : 0 < j) (h1 : j < 1000000000000000000000000000000000000000000000000000000000000) : CDivW i j := by
  refine ⟨h0, Nat.lt_of_lt_of_le (log_lt (k := 200) ?_ (by decide)) (by decide)⟩
  have : (2 : Nat) ^ 200 = 1606938044258990275541962092341162602522202993782792835301376 := by decide
  omega
theorem mulI {i j : Int} (h1 : -1000000000000000000000000000000000000000000000000000000000000 < i) (h2 : i < 1000000000000000000000000000000000000000000000000000000000000)
    (h3 : -1000000000000000000000000000000000000000000000000000000000000 < j) (h4 : j < 1000000000000000000000000000000000000000000000000000000000000) : CMulW i j := by
  have e : (2 : Nat) ^ 200 = 1606938044258990275541962092341162602522202993782792835301376 := by decide
  have a := log_lt (i := i) (k := 200) (by omega) (by decide)
  have b := log_lt (i := j) (k := 200) (by omega) (by decide)
  show i.natAbs.log2 + j.natAbs.log2 < 1000000
  omega

/-! ### the laws' pen: cells, how many are begun, what is left of a great one -/
def Pen (K : PySem.W.Frag) (H : Hp) (p : Addr) (n : Nat) : Prop := ∃ (c : Addr) (ns : List Int) (b g : Int), H p = some (.lst [.ref c, .int b, .int g]) ∧ SqL K H c (ns.map V.int) ∧
  ns.length ≤ 63 ∧ 0 ≤ b ∧ b ≤ n ∧ c ≠ p
theorem Pen.mono {K : PySem.W.Frag} {H : Hp} {p : Addr} {n m : Nat} (h : Pen K H p n) (l : n ≤ m) : Pen K H p m := by
  obtain ⟨c, ns, b, g, h1, h2, h3, h4, h5, h6⟩ := h
  exact ⟨c, ns, b, g, h1, h2, h3, h4, by omega, h6⟩
theorem Pen.same {K : PySem.W.Frag} {H H' : Hp} {p : Addr} {n : Nat} (h : Pen K H p n) (s : Same H H') : Pen K H' p n := by
  obtain ⟨c, ns, b, g, h1, h2, h3, h4, h5, h6⟩ := h
  exact ⟨c, ns, b, g, s _ _ h1, s.seq h2, h3, h4, h5, h6⟩
theorem Pen.new {K : PySem.W.Frag} {H : Hp} {p q : Addr} {o : HO} {n : Nat} (h : Pen K H p n) (e : H q = none) : Pen K (upd H q o) p n := h.same (Same.new e)
def spPen (K : PySem.W.Frag) : Sp := fun vs H Q _ => ∃ (a : Addr) (ns : List Int), vs = [.ref a] ∧ SqL K H a (ns.map V.int) ∧ ∀ p H', Pen K H' p 0 → Same H H' → H p = none → Q (.ref p) H'
def spDraw (K : PySem.W.Frag) : Sp := fun vs H Q _ => ∃ (p : Addr) (m : Int) (n : Nat), vs = [.ref p, .int m] ∧ 0 < m ∧ m < 10000000000000000000000000000000000000000 ∧ Pen K H p n ∧ n < 1000000 ∧
  ∀ k H', 0 ≤ k → k < m → Pen K H' p (n + 1) → Kp p H H' → Q (.int k) H'
def spPick (K : PySem.W.Frag) : Sp := fun vs H Q _ => ∃ (p a : Addr) (xs : List V) (n : Nat), vs = [.ref p, .ref a] ∧ (SqL K H a xs ∨ SqT K H a xs) ∧ xs ≠ [] ∧ xs.length ≤ 1000 ∧ a ≠ p ∧ Pen K H p n ∧ n < 1000000 ∧
  ∀ v H', v ∈ xs → Pen K H' p (n + 1) → Kp p H H' → Q v H'
end CT
namespace CT
open PySem PySem.Spec PyProof.Rows L2
open He (ga ma fAd)

/-! ### comprehensions -/
/-- what a comprehension asks once its source is known -/
def rLc (J : It) (g : TG) (tt : TT) (te : TE) (vs : List Nat) (σ : St) (H1 : Hp) (Q : VK) : Prop := ∀ D, H1 D = none → ∃ W : Nat → Nat → Hp → Prop, (∃ m, W 0 m (upd H1 D (.lst []))) ∧ ∀ i m H, W i m H →
  (J.stop i H ∧ Q (.ref D) H) ∨ (J.go i H ∧ ∃ Nx : Hp → Prop, (∀ H', Nx H' → ∃ m', m' < m ∧ W (i + 1) m' H') ∧ ∀ x H', J.yld i H x H' → g x (wipe σ vs) H' fun σ2 H2 => wipe σ2 vs = wipe σ vs ∧ tt σ2 H2 fun b H3 =>
    if b = true then te σ2 H3 fun y H4 => ∃ acc, H4 D = some (.lst acc) ∧ acc.length < sizeLine ∧ Nx (upd H4 D (.lst (acc ++ [y]))) else Nx H3)
section
variable {σ : St} {H : Hp} {Q : VK} {K : PySem.W.Frag}
theorem go_yes {R : Bool → Hp → Prop} (k : R true H) : tYes σ H R := k
theorem go_lc {wi : TI} {g : TG} {tt : TT} {te : TE} {vs : List Nat} (k : wi σ H fun J H1 => rLc J g tt te vs σ H1 Q) : tLc wi g tt te vs σ H Q := k
def rRng1 (vs : List V) (H : Hp) (R : It → Hp → Prop) : Prop := ∃ j : Int, vs = [.int j] ∧ -(2 ^ 62) ≤ j ∧ j < 2 ^ 62 ∧ R (Itr 0 j.toNat) H
theorem go_rng1 {ta : TA} {R : It → Hp → Prop} (k : ta σ H fun vs H1 => rRng1 vs H1 R) : iRng1 ta σ H R := k
theorem go_rng1x {j : Int} {R : It → Hp → Prop} (h : -4611686018427387904 ≤ j ∧ j < 4611686018427387904) (k : R (Itr 0 j.toNat) H) : rRng1 [.int j] H R := ⟨j, rfl, h.1, h.2, k⟩
def rRng2 (vs : List V) (H : Hp) (R : It → Hp → Prop) : Prop := ∃ i j : Int, vs = [.int i, .int j] ∧ (-(2 ^ 62) ≤ i ∧ i < 2 ^ 62 ∧ -(2 ^ 62) ≤ j ∧ j < 2 ^ 62) ∧ R (Itr i (j - i).toNat) H
theorem go_rng2 {ta : TA} {R : It → Hp → Prop} (k : ta σ H fun vs H1 => rRng2 vs H1 R) : iRng2 ta σ H R := k
theorem go_rng2x {i j : Int} {R : It → Hp → Prop} (h : (-4611686018427387904 ≤ i ∧ i < 4611686018427387904) ∧ -4611686018427387904 ≤ j ∧ j < 4611686018427387904) (k : R (Itr i (j - i).toNat) H) : rRng2 [.int i, .int j] H R :=
  ⟨i, j, rfl, ⟨h.1.1, h.1.2, h.2.1, h.2.2⟩, k⟩
def rListI (K : PySem.W.Frag) (x : V) (H : Hp) (R : It → Hp → Prop) : Prop := ∃ a, x = .ref a ∧ (∃ xs, SqL K H a xs) ∧ R (Itl K a) H
theorem go_listI {tl : TE} {R : It → Hp → Prop} (k : tl σ H fun x H1 => rListI K x H1 R) : iList K tl σ H R := k
theorem go_listIx {a : Addr} {xs : List V} {R : It → Hp → Prop} (h : SqL K H a xs) (k : R (Itl K a) H) : rListI K (.ref a) H R := ⟨a, rfl, ⟨xs, h⟩, k⟩
def rTupI (K : PySem.W.Frag) (x : V) (H : Hp) (R : It → Hp → Prop) : Prop := ∃ a, x = .ref a ∧ (∃ xs, SqT K H a xs) ∧ R (Itt K a) H
theorem go_tupI {tl : TE} {R : It → Hp → Prop} (k : tl σ H fun x H1 => rTupI K x H1 R) : iTup K tl σ H R := k
theorem go_tupIx {a : Addr} {xs : List V} {R : It → Hp → Prop} (h : SqT K H a xs) (k : R (Itt K a) H) : rTupI K (.ref a) H R := ⟨a, rfl, ⟨xs, h⟩, k⟩

/-! #### without effect on what was tracked -/
theorem lcRange {j n : Nat} {vs : List Nat} {te : TE} (f : Nat → V) (hn : n ≤ 100000) (hw : ∀ v, wipe ((wipe σ vs).set j (some v)) vs = wipe σ vs)
    (hs : ∀ (i : Nat) (H' : Hp) (Q' : VK), i < n → Same H H' → (∀ H'', Same H' H'' → Q' (f i) H'') → te ((wipe σ vs).set j (some (.int i))) H' Q')
    (k : ∀ D H', H D = none → Same H H' → H' D = some (.lst ((List.range n).map f)) → Q (.ref D) H') : rLc (Itr 0 n) (gName j) tYes te vs σ H Q := by
  intro D nD
  refine lc_range (lo := 0) (n := n) (fun i H' => Same H H' ∧ H' D = some (.lst ((List.range i).map f))) ⟨Same.new nD, upd_same⟩ ?_ fun H' ⟨s, d⟩ => k D H' nD s d
  rintro i H' hi ⟨s, d⟩
  refine ⟨hw _, ?_⟩
  refine go_yes ?_
  refine iteT ?_
  rw [Int.zero_add]
  refine hs i H' _ hi s fun H'' s2 => ?_
  refine ⟨_, s2 _ _ d, ?_, ?_, ?_⟩
  · rw [List.length_map, List.length_range]
    exact Nat.lt_of_lt_of_le (Nat.lt_of_lt_of_le hi hn) (by decide)
  · exact fun b o h => (upd_ne (ne_of_none h nD)).trans (s2 _ _ (s _ _ h))
  · rw [List.range_succ, List.map_append]
    exact upd_same
theorem lcList {j : Nat} {a : Addr} {xs : List V} {vs : List Nat} {te : TE} (f : V → V) (hn : xs.length ≤ 100000) (ha : SqL K H a xs) (hw : ∀ v, wipe ((wipe σ vs).set j (some v)) vs = wipe σ vs)
    (hs : ∀ (x : V) (H' : Hp) (Q' : VK), x ∈ xs → Same H H' → (∀ H'', Same H' H'' → Q' (f x) H'') → te ((wipe σ vs).set j (some x)) H' Q')
    (k : ∀ D H', H D = none → Same H H' → H' D = some (.lst (xs.map f)) → Q (.ref D) H') : rLc (Itl K a) (gName j) tYes te vs σ H Q := by
  intro D nD
  refine lc_list (K := K) (a := a) (xs := xs) (fun i H' => Same H H' ∧ H' D = some (.lst ((xs.take i).map f))) ⟨Same.new nD, upd_same⟩ (fun i H' _ p => p.1.seq ha) ?_ fun H' ⟨s, d⟩ => k D H' nD s (by rw [List.take_length] at d; exact d)
  rintro i x H' hi ⟨s, d⟩
  refine ⟨hw _, ?_⟩
  refine go_yes ?_
  refine iteT ?_
  obtain ⟨hlt, ex⟩ := List.getElem?_eq_some_iff.mp hi
  refine hs x H' _ (List.mem_of_getElem? hi) s fun H'' s2 => ?_
  refine ⟨_, s2 _ _ d, ?_, ?_, ?_⟩
  · rw [List.length_map, List.length_take]
    exact Nat.lt_of_lt_of_le (Nat.lt_of_lt_of_le (show min i xs.length < xs.length by omega) hn) (by decide)
  · exact fun b o h => (upd_ne (ne_of_none h nD)).trans (s2 _ _ (s _ _ h))
  · rw [List.take_add_one, hi, List.map_append]
    exact upd_same
/-- some are kept -/
theorem lcTupIf {j : Nat} {a : Addr} {xs : List V} {vs : List Nat} {tt : TT} {te : TE} (c : V → Bool) (f : V → V) (hn : xs.length ≤ 100000) (ha : SqT K H a xs) (hw : ∀ v, wipe ((wipe σ vs).set j (some v)) vs = wipe σ vs)
    (ht : ∀ (x : V) (H' : Hp) (Q' : Bool → Hp → Prop), x ∈ xs → Same H H' → (∀ H'', Same H' H'' → Q' (c x) H'') → tt ((wipe σ vs).set j (some x)) H' Q')
    (hs : ∀ (x : V) (H' : Hp) (Q' : VK), x ∈ xs → c x = true → Same H H' → (∀ H'', Same H' H'' → Q' (f x) H'') → te ((wipe σ vs).set j (some x)) H' Q')
    (k : ∀ D H', H D = none → Same H H' → H' D = some (.lst ((xs.filter c).map f)) → Q (.ref D) H') : rLc (Itt K a) (gName j) tt te vs σ H Q := by
  intro D nD
  refine lc_tup (K := K) (a := a) (xs := xs) (fun i H' => Same H H' ∧ H' D = some (.lst (((xs.take i).filter c).map f))) ⟨Same.new nD, upd_same⟩ (fun i H' _ p => ?_) ?_ fun H' ⟨s, d⟩ => k D H' nD s (by rw [List.take_length] at d; exact d)
  · obtain ⟨s, _⟩ := p
    rcases ha with (h | ⟨o, h⟩) | h
    · exact .inl (.inl (s _ _ h))
    · exact .inl (.inr ⟨o, s _ _ h⟩)
    · exact .inr h
  rintro i x H' hi ⟨s, d⟩
  refine ⟨hw _, ?_⟩
  have hx := List.mem_of_getElem? hi
  obtain ⟨hlt, ex⟩ := List.getElem?_eq_some_iff.mp hi
  have step : (xs.take (i + 1)).filter c = (xs.take i).filter c ++ (if c x = true then [x] else []) := by
    rw [List.take_add_one, hi, List.filter_append]
    cases e : c x <;> simp [e]
  refine ht x H' _ hx s fun H1 s1 => ?_
  refine go_b (fun e => ?_) fun e => ?_
  · refine hs x H1 _ hx e (s.trans s1) fun H'' s2 => ?_
    refine ⟨_, s2 _ _ (s1 _ _ d), ?_, ?_, ?_⟩
    · rw [List.length_map]
      have q := List.length_filter_le c (xs.take i)
      rw [List.length_take] at q
      exact Nat.lt_of_lt_of_le (Nat.lt_of_lt_of_le (show ((xs.take i).filter c).length < xs.length by omega) hn) (by decide)
    · exact fun b o h => (upd_ne (ne_of_none h nD)).trans (s2 _ _ (s1 _ _ (s _ _ h)))
    · rw [step, if_pos e, List.map_append]
      exact upd_same
  · refine ⟨s.trans s1, ?_⟩
    rw [step, if_neg (by rw [e]; exact Bool.false_ne_true), List.append_nil]
    exact s1 _ _ d
end

section
variable {σ : St} {H : Hp} {K : PySem.W.Frag}
theorem go_gtup {n : Nat} {t : TGs} {a : Addr} {xs : List V} {R : St → Hp → Prop} (h : SqT K H a xs) (e : xs.length = n) (k : t xs σ H R) : gTup K n t (.ref a) σ H R := ⟨a, xs, rfl, h, e, k⟩
theorem go_gcons {t : TG} {u : TGs} {v : V} {r : List V} {R : St → Hp → Prop} (k : t v σ H fun σ' H' => u r σ' H' R) : gCons t u (v :: r) σ H R := ⟨v, r, rfl, k⟩
theorem go_gnil {R : St → Hp → Prop} (k : R σ H) : gNil [] σ H R := ⟨rfl, k⟩
end
section
variable {σ : St} {H : Hp} {K : PySem.W.Frag} {Q : VK}
/-- a new instance -/
def rMake (C : Addr) (sp : Sp) (E : XK) (vs : List V) (H1 : Hp) (Q : VK) : Prop := ∀ x dx, H1 x = none → H1 dx = none → dx ≠ x → sp (.ref x :: (vs ++ [])) (upd (upd H1 dx (.own x)) x (.ins C dx [])) (fun v H2 => v = .non ∧ Q (.ref x) H2) E
theorem go_make {C : Addr} {sp : Sp} {E : XK} {t : TA} (k : t σ H fun vs H1 => rMake C sp E vs H1 Q) : tMake C sp [] E t σ H Q := k
/-- o.m(..) -/
def rMeth (C : Addr) (m : Str) (sp : Sp) (E : XK) (t : TA) (σ : St) (x : V) (H1 : Hp) (Q : VK) : Prop := ∃ a dx fs, x = .ref a ∧ H1 a = some (.ins C dx fs) ∧ fs.lookup m = none ∧ t σ H1 fun vs H2 => sp (x :: (vs ++ [])) H2 Q E
theorem go_meth {C : Addr} {m : Str} {sp : Sp} {E : XK} {ta : TE} {t : TA} (k : ta σ H fun x H1 => rMeth C m sp E t σ x H1 Q) : tMeth C m sp [] E ta t σ H Q := k
theorem go_methx {C a dx : Addr} {fs : List (Str × V)} {m : Str} {sp : Sp} {E : XK} {t : TA} (h : H a = some (.ins C dx fs)) (l : fs.lookup m = none) (k : t σ H fun vs H2 => sp (.ref a :: (vs ++ [])) H2 Q E) : rMeth C m sp E t σ (.ref a) H Q := ⟨a, dx, fs, rfl, h, l, k⟩
end
/-! ### loops -/
def rFor (J : It) (g : TG) (tb : TS) (D : Ends) (σ : St) (H : Hp) : Prop := ∃ W : Nat → Nat → St → Hp → Prop, (∃ m, W 0 m σ H) ∧ ∀ i m σ H, W i m σ H →
  (J.stop i H ∧ D.nx σ H) ∨ (J.go i H ∧ ∃ N : St → Hp → Prop, (∀ σ' H', N σ' H' → ∃ m', m' < m ∧ W (i + 1) m' σ' H') ∧ ∀ x H', J.yld i H x H' → g x σ H' fun σ2 H2 => tb { D with nx := N, ct := N, bk := D.nx } σ2 H2)
section
variable {σ : St} {H : Hp} {D : Ends} {K : PySem.W.Frag} {g : TG} {tb : TS}
theorem go_for {wi : TI} (k : wi σ H fun J H1 => rFor J g tb D σ H1) : tFor wi g tb D σ H := k
theorem forRange {lo : Int} {n : Nat} (Pv : Nat → St → Hp → Prop) (h0 : Pv 0 σ H)
    (hs : ∀ i σ H, i < n → Pv i σ H → g (.int (lo + i)) σ H fun σ2 H2 => tb { D with nx := Pv (i + 1), ct := Pv (i + 1), bk := D.nx } σ2 H2) (hd : ∀ σ H, Pv n σ H → D.nx σ H) : rFor (Itr lo n) g tb D σ H := for_range Pv h0 hs hd
theorem forList {a : Addr} {xs : List V} (Pv : Nat → St → Hp → Prop) (h0 : Pv 0 σ H) (hl : ∀ i σ H, i ≤ xs.length → Pv i σ H → SqL K H a xs)
    (hs : ∀ i x σ H, xs[i]? = some x → Pv i σ H → g x σ H fun σ2 H2 => tb { D with nx := Pv (i + 1), ct := Pv (i + 1), bk := D.nx } σ2 H2) (hd : ∀ σ H, Pv xs.length σ H → D.nx σ H) : rFor (Itl K a) g tb D σ H := for_list Pv h0 hl hs hd
theorem forTup {a : Addr} {xs : List V} (Pv : Nat → St → Hp → Prop) (h0 : Pv 0 σ H) (hl : ∀ i σ H, i ≤ xs.length → Pv i σ H → SqT K H a xs)
    (hs : ∀ i x σ H, xs[i]? = some x → Pv i σ H → g x σ H fun σ2 H2 => tb { D with nx := Pv (i + 1), ct := Pv (i + 1), bk := D.nx } σ2 H2) (hd : ∀ σ H, Pv xs.length σ H → D.nx σ H) : rFor (Itt K a) g tb D σ H := for_tup Pv h0 hl hs hd
theorem go_all {a : Addr} {bs : List Bool} {Q : VK} (h : SqL K H a (bs.map V.bl)) (k : Q (.bl (bs.all id)) H) : rAll K [.ref a] H Q := ⟨a, bs, rfl, h, k⟩
end

/-! ### the pen, used -/
section
variable {K : PySem.W.Frag} {H H' : Hp} {p a : Addr} {n : Nat} {Q : VK} {E : XK}
theorem Pen.lst (h : Pen K H p n) : ∃ xs, H p = some (.lst xs) := by
  obtain ⟨_, _, _, _, hp, _⟩ := h
  exact ⟨_, hp⟩
theorem Kp.free (k : Kp p H H') (h : Pen K H' p n) (e : H' a = none) : H a = none := by
  obtain ⟨xs, hp⟩ := h.lst
  cases q : H a with
  | none => rfl
  | some o =>
    by_cases z : a = p
    · rw [z, hp] at e
      cases e
    · rw [k a o q z] at e
      cases e
theorem Pen.ne_new (h : Pen K H p n) (e : H a = none) : a ≠ p := fun z => by
  obtain ⟨xs, hp⟩ := h.lst
  rw [z, hp] at e
  cases e
theorem Pen.ne_lst {xs : List V} (h : Pen K H p n) (e : H a = some (.lst xs)) (d : ∀ c b g, xs ≠ [.ref c, .int b, .int g]) : a ≠ p := fun z => by
  obtain ⟨c, _, b, g, hp, _⟩ := h
  rw [z, hp] at e
  cases e
  exact d c b g rfl
theorem Pen.ne_ins {C dx : Addr} {fs : List (Str × V)} (h : Pen K H p n) (e : H a = some (.ins C dx fs)) : a ≠ p := fun z => by
  obtain ⟨xs, hp⟩ := h.lst
  rw [z, hp] at e
  cases e
theorem draw_go {m : Int} (hP : Pen K H p n) (hn : n < 1000000) (h0 : 0 < m) (h1 : m < 10000000000000000000000000000000000000000) (k : ∀ i H', 0 ≤ i → i < m → Pen K H' p (n + 1) → Kp p H H' → Q (.int i) H') : spDraw K [.ref p, .int m] H Q E :=
  ⟨p, m, n, rfl, h0, h1, hP, hn, k⟩
theorem pick_new {xs : List V} (hP : Pen K H p n) (hn : n < 1000000) (nq : H a = none) (hx : xs ≠ []) (hl : xs.length ≤ 1000) (k : ∀ v H', v ∈ xs → Pen K H' p (n + 1) → Kp p H H' → H' a = some (.lst xs) → Q v H') :
    spPick K [.ref p, .ref a] (upd H a (.lst xs)) Q E := by
  have ap := hP.ne_new nq
  refine ⟨p, a, xs, n, rfl, .inl (SqL.of upd_same), hx, hl, ap, hP.new nq, hn, fun v H' hv P' k' => k v H' hv P' ((Kp.new nq).trans k') (k' _ _ upd_same ap)⟩
theorem pick_at {xs : List V} (hP : Pen K H p n) (hn : n < 1000000) (ha : H a = some (.lst xs)) (ap : a ≠ p) (hx : xs ≠ []) (hl : xs.length ≤ 1000) (k : ∀ v H', v ∈ xs → Pen K H' p (n + 1) → Kp p H H' → Q v H') :
    spPick K [.ref p, .ref a] H Q E := ⟨p, a, xs, n, rfl, .inl (SqL.of ha), hx, hl, ap, hP, hn, k⟩
end

/-! ### reprs of lists of truth values -/
def okBools (bs : List Bool) : Bool := (PyData.list (bs.map PyData.bool)).showable && (!(PyData.list (bs.map PyData.bool)).hasDict && (decide ((PyData.list (bs.map PyData.bool)).depth ≤ 60) && decide ((PyData.list (bs.map PyData.bool)).shown.length ≤ sizeLine)))
theorem dpBools {K : PySem.W.Frag} {H : Hp} : ∀ bs : List Bool, DpAll K H (bs.map V.bl) (bs.map PyData.bool)
  | [] => .nil
  | b :: bs => .cons (.bl b) (dpBools bs)
theorem repr_bools {K : PySem.W.Frag} {H : Hp} {Q : VK} {a : Addr} {bs : List Bool} (h : SqL K H a (bs.map V.bl)) (c : okBools bs = true) (k : Q (.str (PyData.list (bs.map PyData.bool)).shown) H) : rRepr K [.ref a] H Q := by
  unfold okBools at c
  simp only [Bool.and_eq_true, Bool.not_eq_true', decide_eq_true_eq] at c
  exact ⟨_, _, rfl, .lst h (dpBools bs), c.1, c.2.1, c.2.2.1, c.2.2.2, k⟩

/-! ### greatest common divisors -/
def gc (t b : Int) : Int := (Nat.gcd t.natAbs b.natAbs : Nat)
theorem gc_pos {t b : Int} (h : 0 < b) : 0 < gc t b := by
  have := Nat.gcd_pos_of_pos_right t.natAbs (show 0 < b.natAbs by omega)
  unfold gc
  omega
theorem gc_le {t b : Int} (h : 0 < b) : gc t b ≤ b := by
  have := Nat.gcd_le_right t.natAbs (show 0 < b.natAbs by omega)
  unfold gc
  omega
theorem gc_top {t b : Int} : gc t b * (t / gc t b) = t := Int.mul_ediv_cancel' (Int.ofNat_dvd_left.mpr (Nat.gcd_dvd_left _ _))
theorem gc_bot {t b : Int} : gc t b * (b / gc t b) = b := Int.mul_ediv_cancel' (Int.ofNat_dvd_left.mpr (Nat.gcd_dvd_right _ _))
theorem go_gcd {H : Hp} {Q : VK} {t b : Int} (k : Q (.int (gc t b)) H) : rGcd [.int t, .int b] H Q := ⟨t, b, rfl, k⟩
end CT
namespace CT
open PySem PySem.Spec PyProof.Rows L2
open He (ga ma fAd)

/-! ### exceptions with fields of their own -/
def spEx1 (C : Addr) (f : Str) : Sp := fun vs H Q _ => ∃ (a : Addr) (v : V), vs = [.ref a, v] ∧ H a = some (exo a C none) ∧
  ∀ dx, H dx = none → dx ≠ a → Q .non (upd (upd H dx (exd dx [(f, v)])) a (exo a C (some dx)))
def spEx2 (C : Addr) (f g : Str) : Sp := fun vs H Q _ => ∃ (a : Addr) (v w : V), vs = [.ref a, v, w] ∧ H a = some (exo a C none) ∧
  ∀ dx, H dx = none → dx ≠ a → Q .non (upd (upd H dx (exd dx [(g, w), (f, v)])) a (exo a C (some dx)))
/-- C(..) that is raised -/
def Ex (P : Program) (w : World) (K : PySem.W.Frag) (mg : Str → Option Value) (base : Heap) (k : Nat) (x : Str) (sp : Sp) : Prop :=
  ∃ fd ps, FnOk P w K mg base CX0 k (ma K (ga K x) "__init__") fd ps sp ∧ ExoC K (ga K x) (ma K (ga K x) "__init__") ∧ mg x = some (.ref (ga K x)) ∧ Binds K fd ps []
section
variable {X : Cx} {j k : Nat} {x : Str} {sp : Sp} {p pos : Pos} {e : Expr} {es : List Expr} {ta : TA}
theorem pmk_ex (c : Ex X.prog X.w X.K X.mg X.base k x sp) (hr : Room j X.A) (hk : k + 1 ≤ j) (ha : PA X (e :: es) ta) (hg : Gl X x := by rfl)
    (hdb : (x == ("__debug__" : Str)) = false := by decide) (he : starEach (e :: es) X.env = (false, eval e X.env) :: starEach es X.env := by rfl) (hpl : (backTo pos (starEach es X.env)).any (·.1) = false := by rfl) :
    PMk X (.Call (.Name x p) (e :: es) [] pos) (tMkO (ga X.K x) sp [] ta) := by
  obtain ⟨fd, ps, F, T, hm, b⟩ := c
  exact pmk_oex T.oex T.init T.fn F (hr.mono hk) b .nil (fun _ _ _ _ _ _ _ h => h.elim) hg hm ha hdb he hpl
end
section
variable {σ : St} {H : Hp} {K : PySem.W.Frag}
def rMkO (C : Addr) (sp : Sp) (vs : List V) (H1 : Hp) (Q : XK) : Prop := vs.length ≤ 1000 ∧ ∀ a, H1 a = none → sp (.ref a :: (vs ++ [])) (upd H1 a (exo a C none))
  (fun v H2 => v = .non ∧ ∃ (d : Addr) (fs : List (Str × V)), H2 a = some (exo a C (some d)) ∧ H2 d = some (exd d fs) ∧ H1 d = none ∧ Q (.ref C) (some d) (upd (del H2 a) d (.xd fs))) (fun _ _ _ => False)
theorem go_mko {C : Addr} {sp : Sp} {ta : TA} {Q : XK} (k : ta σ H fun vs H1 => rMkO C sp vs H1 Q) : tMkO C sp [] ta σ H Q := k
theorem made_heap {a d : Addr} {u1 u2 u3 : HO} (na : H a = none) : upd (del (upd (upd (upd H a u1) d u2) a u3) a) d (.xd fs) = upd H d (.xd fs) := by
  funext b
  unfold upd del
  by_cases hb : b = d
  · rw [if_pos hb, if_pos hb]
  · rw [if_neg hb, if_neg hb]
    by_cases ha : b = a
    · rw [if_pos ha, ha, na]
    · rw [if_neg ha]
      simp only [if_neg ha, if_neg hb]
theorem go_ex1 {C : Addr} {f : Str} {v : V} {Q : XK} (k : ∀ d, H d = none → Q (.ref C) (some d) (upd H d (.xd [(f, v)]))) : rMkO C (spEx1 C f) [v] H Q := by
  refine ⟨Nat.le_of_ble_eq_true rfl, fun a na => ⟨a, v, rfl, upd_same, fun dx nd ne => ⟨rfl, dx, _, upd_same, (upd_ne ne).trans upd_same, ?_, ?_⟩⟩⟩
  · rw [upd_ne ne] at nd
    exact nd
  · rw [upd_ne ne] at nd
    rw [made_heap na]
    exact k dx nd
theorem go_ex2 {C : Addr} {f g : Str} {v w : V} {Q : XK} (k : ∀ d, H d = none → Q (.ref C) (some d) (upd H d (.xd [(g, w), (f, v)]))) : rMkO C (spEx2 C f g) [v, w] H Q := by
  refine ⟨Nat.le_of_ble_eq_true rfl, fun a na => ⟨a, v, w, rfl, upd_same, fun dx nd ne => ⟨rfl, dx, _, upd_same, (upd_ne ne).trans upd_same, ?_, ?_⟩⟩⟩
  · rw [upd_ne ne] at nd
    exact nd
  · rw [upd_ne ne] at nd
    rw [made_heap na]
    exact k dx nd
def rOst (K : PySem.W.Frag) (f : Str) (y x : V) (H : Hp) (R : Hp → Prop) : Prop := ∃ a C : Addr, x = .ref a ∧ OexC K C ∧ PySem.W.findIn K (.ref C) f = some none ∧
  ((H a = some (exo a C none) ∧ ∀ dx, H dx = none → dx ≠ a → R (upd (upd H dx (exd dx [(f, y)])) a (exo a C (some dx)))) ∨
    ∃ (dx : Addr) (fs : List (Str × V)), H a = some (exo a C (some dx)) ∧ H dx = some (exd dx fs) ∧ fs.length ≤ 900 ∧ R (upd H dx (exd dx ((f, y) :: fs))))
theorem go_ost {f : Str} {to te : TE} {D : Ends} (k : te σ H fun y H1 => to σ H1 fun x H2 => rOst K f y x H2 (D.nx σ)) : tOst K f to te D σ H := k
theorem go_ost1 {a C : Addr} {f : Str} {y : V} {R : Hp → Prop} (c : OexC K C) (n : NoAttr K C f) (h : H a = some (exo a C none)) (k : ∀ dx, H dx = none → dx ≠ a → R (upd (upd H dx (exd dx [(f, y)])) a (exo a C (some dx)))) :
    rOst K f y (.ref a) H R := ⟨a, C, rfl, c, n, .inl ⟨h, k⟩⟩
theorem go_ost2 {a C dx : Addr} {f g : Str} {v y : V} {R : Hp → Prop} (c : OexC K C) (n : NoAttr K C f) (ne : dx ≠ a) (k : R (upd (upd H dx (exd dx [(f, y), (g, v)])) a (exo a C (some dx)))) :
    rOst K f y (.ref a) (upd (upd H dx (exd dx [(g, v)])) a (exo a C (some dx))) R := by
  refine ⟨a, C, rfl, c, n, .inr ⟨dx, [(g, v)], upd_same, (upd_ne ne).trans upd_same, Nat.le_of_ble_eq_true rfl, ?_⟩⟩
  have e : upd (upd (upd H dx (exd dx [(g, v)])) a (exo a C (some dx))) dx (exd dx [(f, y), (g, v)]) = upd (upd H dx (exd dx [(f, y), (g, v)])) a (exo a C (some dx)) := by
    funext b
    unfold upd
    by_cases hb : b = dx
    · rw [if_pos hb, hb, if_neg ne, if_pos rfl]
    · rw [if_neg hb, if_neg hb, if_neg hb]
  rw [e]
  exact k
end

/-! ### C(..) with defaults -/
def MkeD (P : Program) (w : World) (K : PySem.W.Frag) (mg : Str → Option Value) (base : Heap) (CX : CXT) (k : Nat) (x : Str) (sp : Sp) (dvs : List V) : Prop :=
  ∃ f fd ps ds, FnOk P w K mg base CX k f fd ps sp ∧ Mk K (ga K x) f ∧ mg x = some (.ref (ga K x)) ∧ Binds K fd ps ds ∧ Vals dvs ds
theorem pe_mked {X : Cx} {CX : CXT} {j k : Nat} {x : Str} {sp : Sp} {E : XK} {p pos : Pos} {e : Expr} {es : List Expr} {t : TA} {dvs : List V} (c : MkeD X.prog X.w X.K X.mg X.base CX k x sp dvs) (hr : Room j X.A) (hk : k + 1 ≤ j) (hx : Passes CX X E) (ha : PA X (e :: es) t) (hg : Gl X x := by rfl)
    (hdb : (x == ("__debug__" : Str)) = false := by decide) (he : starEach (e :: es) X.env = (false, eval e X.env) :: starEach es X.env := by rfl)
    (hpl : (backTo pos (starEach es X.env)).any (·.1) = false := by rfl) : PE X (.Call (.Name x p) (e :: es) [] pos) (tMake (ga X.K x) sp dvs E t) := by
  obtain ⟨f, fd, ps, ds, F, M, hm, b, v⟩ := c
  exact pe_make M F (hr.mono hk) hg hm b v hx ha hdb he hpl
def rMakeD (C : Addr) (sp : Sp) (dvs : List V) (E : XK) (vs : List V) (H1 : Hp) (Q : VK) : Prop := ∀ x dx, H1 x = none → H1 dx = none → dx ≠ x → sp (.ref x :: (vs ++ dvs)) (upd (upd H1 dx (.own x)) x (.ins C dx [])) (fun v H2 => v = .non ∧ Q (.ref x) H2) E
theorem go_maked {σ : L2.St} {H : Hp} {Q : VK} {C : Addr} {sp : Sp} {dvs : List V} {E : XK} {t : TA} (k : t σ H fun vs H1 => rMakeD C sp dvs E vs H1 Q) : tMake C sp dvs E t σ H Q := k

/-! ### what a raising def promises -/
/-- an error of the class x with one field -/
def Er1 (K : PySem.W.Frag) (x f : Str) (v : V) (H : Hp) (E : XK) : Prop := ∀ d H', H d = none → Same H H' → H' d = some (.xd [(f, v)]) → E (.ref (ga K x)) (some d) H'
def Er2 (K : PySem.W.Frag) (x f g : Str) (v w : V) (H : Hp) (E : XK) : Prop := ∀ d H', H d = none → Same H H' → H' d = some (.xd [(g, w), (f, v)]) → E (.ref (ga K x)) (some d) H'
theorem Er1.at {K : PySem.W.Frag} {x f : Str} {v : V} {H : Hp} {E : XK} (h : Er1 K x f v H E) : ∀ d, H d = none → E (.ref (ga K x)) (some d) (upd H d (.xd [(f, v)])) := fun d n => h d _ n (Same.new n) upd_same
theorem Er2.at {K : PySem.W.Frag} {x f g : Str} {v w : V} {H : Hp} {E : XK} (h : Er2 K x f g v w H E) : ∀ d, H d = none → E (.ref (ga K x)) (some d) (upd H d (.xd [(g, w), (f, v)])) := fun d n => h d _ n (Same.new n) upd_same
end CT
namespace CT
open PySem PySem.Spec PyProof.Rows L2
open He (ga ma fAd)

/-! ### lambdas that are handed on: what their raising finds -/
/-- a wish may lean on the number of the slots -/
theorem takes_len {X : Cx} {W : WX} (t : Takes X W) : Takes X (fun cls d σ H => σ.length = X.N.length → W cls d σ H) :=
  fun u s' ⟨a, B, sI, pins, σ, H, cls, d, e, I, nb, up, sky, na, os, ag, w⟩ => t u s' ⟨a, B, sI, pins, σ, H, cls, d, e, I, nb, up, sky, na, os, ag, w I.len⟩
theorem slot_set {σ : St} {i n : Nat} {v : Option V} (h : σ.length = n) (hi : i < n) : (σ.set i v)[i]? = some v := by
  rw [List.getElem?_set]
  simp [h, hi]
theorem slot_past {σ : St} {i j : Nat} {v w : Option V} (h : σ[i]? = some v) (hij : j ≠ i) : (σ.set j w)[i]? = some v := by
  rw [List.getElem?_set, if_neg hij]
  exact h
def tAskT (f c' : Addr) (q : Str) (t : Hp → VK → Prop) : TE := fun σZ HZ Q => σZ[0]? = some (some (.ref f)) ∧ HZ c' = some (LamX.CodeO c' q) ∧ t HZ Q
def rXk (K : PySem.W.Frag) (f : Str) (x : V) (H1 : Hp) (Q : VK) : Prop := ∃ (a C dd : Addr) (fs : List (Str × V)) (v : V),
  x = .ref a ∧ H1 a = some (ExK (.ref C) (some dd) a) ∧ XfC K C ∧ PySem.W.findIn K (.ref C) f = some none ∧ H1 dd = some (.xd fs) ∧ fs.lookup f = some v ∧ Q v H1
theorem go_xk {K : PySem.W.Frag} {σ : St} {H : Hp} {Q : VK} {f : Str} {te : TE} (k : te σ H fun x H1 => rXk K f x H1 Q) : tXk K f te σ H Q := k
theorem go_xkx {K : PySem.W.Frag} {H : Hp} {Q : VK} {a C dd : Addr} {fs : List (Str × V)} {f : Str} {v : V} (h : H a = some (ExK (.ref C) (some dd) a)) (c : XfC K C) (n : NoAttr K C f) (hd : H dd = some (.xd fs)) (l : fs.lookup f = some v) (k : Q v H) :
    rXk K f (.ref a) H Q := ⟨a, C, dd, fs, v, rfl, h, c, n, hd, l, k⟩
theorem go_isx {K : PySem.W.Frag} {H : Hp} {Q : VK} {a D dd : Addr} {fs : List (Str × V)} {c : V} {cv : Value} {b : Bool} (h : H a = some (ExK (.ref D) (some dd) a)) (hd : H dd = some (.xd fs)) (C : ExcC K D) (k : ClsV c cv) (e : PySem.W.kitOne K (.ref D) cv = some b)
    (q : Q (.bl b) H) : rIsK K [.ref a, c] H Q := ⟨a, D, some dd, c, cv, b, rfl, h, (fun d z => by cases z; exact ⟨fs, hd⟩), C, k, e, q⟩
/-! ### tables of code objects under the pen -/
theorem codeO_lst {c : Addr} {q : Str} {xs : List V} : LamX.CodeO c q ≠ .lst xs := fun z => by
  unfold LamX.CodeO at z
  cases z
theorem tabs_kp {T : List (Addr × Str)} {p : Addr} {H H' : Hp} (t : LamX.Tabs T H) (k : Kp p H H') (h : ∃ xs, H p = some (.lst xs)) : LamX.Tabs T H' := fun r hr => by
  obtain ⟨xs, hp⟩ := h
  obtain ⟨ps, h1, h2, h3⟩ := t r hr
  refine ⟨ps, k _ _ h1 (fun z => by rw [z, hp] at h1; cases h1), h2, fun pos cv hc => ?_⟩
  obtain ⟨c, e1, e2⟩ := h3 pos cv hc
  refine ⟨c, e1, k _ _ e2 fun z => ?_⟩
  rw [z, hp] at e2
  exact codeO_lst (Option.some.inj e2).symm
theorem tabs_same {T : List (Addr × Str)} {H H' : Hp} (t : LamX.Tabs T H) (k : Same H H') : LamX.Tabs T H' := t.ext k
theorem pen_ext {K : PySem.W.Frag} {p : Addr} {n : Nat} {H H' : Hp} (h : Pen K H p n) (e : LamX.ExtN H H') : Pen K H' p n := by
  obtain ⟨c, ns, b, g, h1, h2, h3, h4, h5, h6⟩ := h
  refine ⟨c, ns, b, g, e _ _ h1 (fun _ z => by cases z), ?_, h3, h4, h5, h6⟩
  rcases h2 with (h | ⟨o, h⟩) | h
  · exact .inl (.inl (e _ _ h fun _ z => by cases z))
  · exact .inl (.inr ⟨o, e _ _ h fun _ z => by cases z⟩)
  · exact .inr h

/-! ### a def whose code object is named; the call with a lambda -/
section
variable {P : Program} {w : World} {K : PySem.W.Frag} {mg : Str → Option Value} {base : Heap} {x qual : Str} {params : Arguments} {body : List Stmt} {scope : Scope} {dvs : List V} {kws : List (Str × V)} {f : Addr} {fd : FuncData}
theorem _root_.L2.FunD.okGD {CX : CXT} {N ps : List Str} {k : Nat} {sp : Sp} (F : L2.FunD K x qual params body scope dvs kws f fd) (S : FnScope N ps scope) (len : ∀ vs H Q E, sp vs H Q E → vs.length = ps.length)
    (hbody : ∀ (A : Around) (outer : List Env) (s : Shared) (H : Hp) (vs : List V) (Q : VK) (E : XK), A.guards = some [] → Room k (A.deeper (envOfC qual scope s.heap.objs.size f fd.code)) → sp vs H Q E →
      ∃ t, PSs (cxOf CX P w K mg base N qual scope f fd.code A outer s H E) body t ∧ t { nx := fun _ H' => Q .non H', rt := Q } (start N vs) H) : FnOkG P w K mg base CX (k + 1) f fd ps sp := by
  obtain ⟨oc, od, dV, kV, doc, pm, an, cdv, ct, osl, rfl, lk, hcd, _, _⟩ := F.ex
  refine ⟨len, fun A outer s H args us vs Q E hr hgd e0 hb r hsp => ?_⟩
  exact LamX.run_ofS (N := N) lk hcd S hr e0 hb r (len _ _ _ _ hsp) fun hr' => hbody A outer s H vs Q E hgd hr' hsp
theorem code_of (F : L2.FunD K x qual params body scope dvs kws f (fdAt K f)) : (fdAt K f).code = .ref (codeAt K f) := by
  obtain ⟨oc, od, dV, kV, doc, pm, an, cdv, ct, osl, e, lk, hcd, _, _⟩ := F.ex
  have ec : (fdAt K f).code = cdv := by rw [e]
  unfold codeAt
  rw [ec]
  cases cdv <;> first
    | rfl
    | (simp [PySem.W.codeIn] at hcd)
end
theorem pe_lam {X : Cx} {T : List (Addr × Str)} {TT : (XK → Hp → VK → Prop) → Hp → VK → Prop} {x a : Str} {g c Pt : Addr} {k : Nat} {pg : Arguments} {bg : List Stmt} {sg : Scope} {fd : FuncData} {Ng : List Str}
    {params : Arguments} {body : Expr} {scope : Scope} {t : XK → TE} {p lpos pos : Pos} (hm : X.mg x = some (.ref g)) (F : L2.FunD X.K x x pg bg sg [] [] g fd) (b : L2.Binds X.K fd [a] []) (Sg : FnScope Ng [a] sg) (hNg : Ng[0]? = some a) (hva : Vis sg a)
    (hG : ∀ cdg, LamX.GivesTo X Ng x sg g cdg bg a (X.env.qual ++ "<lambda>") TT) (TB : LamX.TabB X.base X.mg c Pt) (hcode : X.env.code = .ref c) (hmT : (Pt, X.env.qual ++ "<lambda>") ∈ T) (hu : ∀ p ∈ T, p.1 = Pt → p.2 = X.env.qual ++ "<lambda>")
    (hr : Room (k + 2) X.A) (L : LamX.LamS X.env.scope scope) (hdef : defaultsOf params X.env = ([], []))
    (hbind : ∀ (q : Str) (cl : List (Str × Addr)) (pm cv ctv : Value), bindArgs (PySem.W.kla_fn "<lambda>" q params body scope cl pm cv ctv) ⟨[], []⟩ = pure [])
    (hbody : ∀ (A : Around) (outer : List Env) (s : Shared) (H : Hp) (E : XK) (f c' : Addr), Room k (A.deeper (LamX.lamEnv X scope s.heap.objs.size f c')) → PE (LamX.lamCx X A outer s H E scope f c') body (t E))
    (hg : Gl X x := by rfl) (hdb : (x == ("__debug__" : Str)) = false := by decide) (hd : (a == ("__debug__" : Str)) = false := by decide) (hcd : (a == ("__classdict__" : Str)) = false := by decide) :
    PE X (.Call (.Name x p) [.Lambda params body scope lpos] [] pos) (LamX.tLam T TT t) := by
  obtain ⟨oc, od, dV, kV, doc, pm, an, cdv, ct, osl, rfl, lk, hcd', _, _⟩ := F.ex
  exact LamX.pe_lamcall hg hm F.kp lk hcd' b Sg hNg hva (hG _) TB hcode hmT hu hr L hdef hbind hbody hdb hd hcd
theorem go_lam {σ : St} {H : Hp} {Q : VK} {T : List (Addr × Str)} {TT : (XK → Hp → VK → Prop) → Hp → VK → Prop} {t : XK → TE} (h : LamX.Tabs T H) (k : ∀ H1, LamX.ExtN H H1 → LamX.Tabs T H1 → TT (fun E H' Q' => t E σ H' Q') H1 Q) : LamX.tLam T TT t σ H Q := ⟨h, k⟩

/-! ### values of the built-in kinds -/
inductive OddV (H : Hp) : V → String → Prop
  | non : OddV H .non "NoneType"
  | int (i : Int) : OddV H (.int i) "int"
  | bl (b : Bool) : OddV H (.bl b) "bool"
  | str (x : Str) : OddV H (.str x) "str"
  | lst {a : Addr} {xs : List V} (e : H a = some (.lst xs)) : OddV H (.ref a) "list"
  | tup {a : Addr} {xs : List V} (e : H a = some (.tup xs)) : OddV H (.ref a) "tuple"
  | dK {a : Addr} {kvs : List (Key × V)} (e : H a = some (.dK kvs)) : OddV H (.ref a) "dict"
theorem OddV.ty {K : PySem.W.Frag} {H : Hp} {v : V} {n : String} (h : OddV H v n) : TyX K H v (.type n) := by
  cases h with
  | non => exact .base .non
  | int i => exact .base (.int i)
  | bl b => exact .base (.bl b)
  | str x => exact .base (.str x)
  | lst e => exact .base (.lst e)
  | tup e => exact .base (.tup e)
  | dK e => exact .base (.dK e)
theorem OddV.ext {H H' : Hp} {v : V} {n : String} (h : OddV H v n) (x : LamX.ExtN H H') : OddV H' v n := by
  cases h with
  | non => exact .non
  | int i => exact .int i
  | bl b => exact .bl b
  | str s => exact .str s
  | lst e => exact .lst (x _ _ e fun _ z => by cases z)
  | tup e => exact .tup (x _ _ e fun _ z => by cases z)
  | dK e => exact .dK (x _ _ e fun _ z => by cases z)
theorem OddV.same {H H' : Hp} {v : V} {n : String} (h : OddV H v n) (s : Same H H') : OddV H' v n := h.ext (LamX.ExtN.of s)

theorem OddV.put {H : Hp} {l : Addr} {xs ys : List V} {v : V} {n : String} (h : OddV H v n) (e : H l = some (.lst xs)) : OddV (upd H l (.lst ys)) v n := by
  cases h with
  | non => exact .non
  | int i => exact .int i
  | bl b => exact .bl b
  | str s => exact .str s
  | @lst a zs q =>
    by_cases z : a = l
    · subst z
      exact .lst upd_same
    · exact .lst ((upd_ne z).trans q)
  | @tup a zs q => exact .tup ((upd_ne (ne_of q e (by intro z; cases z))).trans q)
  | @dK a zs q => exact .dK ((upd_ne (ne_of q e (by intro z; cases z))).trans q)
/-! ### appending, repeating, data of texts -/
section
variable {K : PySem.W.Frag} {H : Hp} {Q : VK} {σ : St}
def rBMA (K : PySem.W.Frag) (t : TA) (σ : St) (x : V) (H1 : Hp) (Q : VK) : Prop := tyV K "list" x H1 ∧ t σ H1 fun xs H2 => rAppend x xs H2 Q
theorem go_bma {to : TE} {t : TA} (k : to σ H fun x H1 => rBMA K t σ x H1 Q) : tBM K "list" rAppend to t σ H Q := k
theorem go_bmax {l : Addr} {xs : List V} {t : TA} (h : SqL K H l xs) (k : t σ H fun vs H2 => rAppend (.ref l) vs H2 Q) : rBMA K t σ (.ref l) H Q := ⟨.inl ⟨rfl, xs, h⟩, k⟩
theorem go_app {l : Addr} {xs : List V} {y : V} (h : H l = some (.lst xs)) (sz : xs.length ≤ 100000) (k : Q .non (upd H l (.lst (xs ++ [y])))) : rAppend (.ref l) [y] H Q :=
  ⟨l, xs, y, rfl, rfl, h, Nat.lt_of_le_of_lt sz (by decide), k⟩
theorem go_appl {l : Addr} {xs ys : List V} {y : V} (h : H l = some (.lst xs)) (sz : xs.length ≤ 100000) (e : xs ++ [y] = ys) (k : Q .non (upd H l (.lst ys))) : rAppend (.ref l) [y] H Q := by
  subst e
  exact go_app h sz k
theorem go_dnew (k : ∀ p, H p = none → Q (.ref p) (upd H p (.dK []))) : tDNewK σ H Q := k
theorem go_rep {l : Addr} {n : Int} {xs ys : List V} (h : H l = some (.lst xs)) (n0 : 0 ≤ n) (n1 : n ≤ 1000) (sz : xs.length ≤ 1000) (e : (List.replicate n.toNat xs).flatten = ys) (k : ∀ p, H p = none → Q (.ref p) (upd H p (.lst ys))) : rRep (.ref l) (.int n) H Q := by
  subst e
  refine ⟨l, n, xs, rfl, rfl, h, by omega, by omega, ?_, k⟩
  exact Nat.le_trans (Nat.mul_le_mul sz (show n.toNat ≤ 1000 by omega)) (by decide)
theorem dpStrs : ∀ ns : List Str, DpAll K H (ns.map V.str) (ns.map PyData.str)
  | [] => .nil
  | n :: ns => .cons (.str n) (dpStrs ns)
theorem depthStrs : ∀ ns : List Str, PyData.depthAll (ns.map PyData.str) ≤ 1
  | [] => by decide
  | n :: ns => by
    have h := depthStrs ns
    show PyData.depthAll (PyData.str n :: ns.map PyData.str) ≤ 1
    rw [PyData.depthAll]
    have e : (PyData.str n).depth ≤ 1 := by rw [PyData.depth]; omega
    omega
theorem shStrs (ns : List Str) (lay : PyData.canLayAll0 (ns.map PyData.str) = true) : SeqAt.shaped (.list (ns.map PyData.str)) = true := by
  unfold SeqAt.shaped
  rw [PyData.canLay0, lay, PyData.depth]
  have := depthStrs ns
  simp
  omega
theorem eqvStrs : ∀ ns ms : List Str, PyData.eqvAll (ns.map PyData.str) (ms.map PyData.str) = decide (ns = ms)
  | [], [] => by rw [List.map_nil, PyData.eqvAll]; rfl
  | [], _ :: _ => by rw [List.map_nil, List.map_cons, PyData.eqvAll]; rfl
  | _ :: _, [] => by rw [List.map_nil, List.map_cons, PyData.eqvAll]; rfl
  | n :: ns, m :: ms => by
    rw [List.map_cons, List.map_cons, PyData.eqvAll, eqvStrs ns ms, PyData.eqv]
    by_cases h : n = m
    · by_cases h2 : ns = ms
      · subst h h2; simp
      · simp [h, h2]
    · simp [h]
theorem go_neStrs {a b : Addr} {ns ms : List Str} (ha : SqL K H a (ns.map V.str)) (hb : SqL K H b (ms.map V.str)) (la : PyData.canLayAll0 (ns.map PyData.str) = true) (lb : PyData.canLayAll0 (ms.map PyData.str) = true) (k : Q (.bl (!decide (ns = ms))) H) :
    rNeD K (.ref a) (.ref b) H Q := by
  refine ⟨_, _, .lst ha (dpStrs ns), .lst hb (dpStrs ms), shStrs ns la, shStrs ms lb, ?_⟩
  rw [PyData.eqv, eqvStrs]
  exact k
end
theorem tabs_nil {H : Hp} {P : Addr} {q : Str} (h : H P = some (.tbl #[])) : LamX.Tabs [(P, q)] H := fun p hp => by
  cases List.mem_singleton.mp hp
  exact LamX.TabS.nil h

/-! ### the end of a law over the Hook of systems -/
theorem walk_ofGE {l : PySem.W.OpenLaw} {n k : Nat} {q : Program} {loose : List Str} {XP : (Str → Option Value) → Heap → Prop} {YP : World → Heap → Prop} {d : DefRec}
    {CX : World → CXT} {x : Str} (hn : l.most = some n) (hn2 : n ≤ sizeLine) (hdf : d.params.defaults = []) (hr : Room k callerA)
    (F : ∀ (w : World) (mg : Str → Option Value) (fa : Addr) (h : Heap), YP w h → h.Ns mainGlobals mg → mg d.name = some (.ref fa) → ∃ K : PySem.W.Frag, K.In h ∧ LawAtG l w K (CX w) k n x mg fa h)
    (hCX : ∀ (w : World) (H : Hp) (s : Shared) (e : Value) (s' : Shared), CX w [] H s (fun _ _ _ => False) e s' → False) :
    PySem.W.WalkO q loose XP YP l.row.toRowW d [] (fun f vs => PySem.call f vs) := by
  refine Att.attach_callB hn hdf fun w s0 s1 mg mb fa o pm cd doc a vs ns G Y ho hd hcd hmg hobj hints hlen hbits hg => ?_
  obtain ⟨K, KX, fd, cs, sp, hT, nT, C, hb, hsp, hF⟩ := F w mg fa _ Y G.T.g hmg
  exact law_callG KX G.T.g G.T.b G.T.builtins G.T.nolimit hg hT nT C G.T.bmain hobj hints (Nat.le_trans hlen hn2) hr hF hb
    (fun H hH hS => hsp H a ns hlen hbits hH hS) fun H e s' => hCX w H s1 e s'
theorem tabs_of {y : Sys} {K : PySem.W.Frag} {h : Heap} (KX : K.In h) (c : SaysC y h K) :
    (∀ p ∈ y.tf.map fun q => tabAt K (q.adr K), h.get? p.2 = some { cls := .none, data := .fields #[] }) ∧ (∀ p ∈ y.tf.map fun q => tabAt K (q.adr K), K.lookup p.2 = none) ∧
    ∀ p ∈ y.tf.map fun q => tabAt K (q.adr K), PySem.W.CodeHd h p.1 p.2 := by
  refine ⟨fun p hp => ?_, fun p hp => ?_, fun p hp => ?_⟩
  · obtain ⟨q, hq, rfl⟩ := List.mem_map.mp hp
    exact c.empty q hq
  · obtain ⟨q, hq, rfl⟩ := List.mem_map.mp hp
    exact c.out q hq
  · obtain ⟨q, hq, rfl⟩ := List.mem_map.mp hp
    exact PySem.W.codeHd_of_K KX (c.hd q hq)
end CT
/-! ### buckets: what they let, by plain numbers -/
namespace Bk
def bnd (b r e t : Int) : Int := b + r * (t / e)
theorem bnd_mono {b r e s t : Int} (hr : 0 ≤ r) (he : 0 < e) (h : s ≤ t) : bnd b r e s ≤ bnd b r e t := by
  have q := Int.ediv_le_ediv he h
  have := Int.mul_le_mul_of_nonneg_left q hr
  unfold bnd
  omega
theorem bnd_floor {b r e t : Int} (he : 0 < e) : bnd b r e (e * (t / e)) = bnd b r e t := by
  unfold bnd
  rw [Int.mul_ediv_cancel_left _ (by omega)]
/-- at most, by one's own moments -/
def atMost (b1 r1 e1 b2 r2 e2 : Int) : Bool := decide (r1 * e2 ≤ r2 * e1) && (List.range e2.toNat).all fun i => decide (bnd b1 r1 e1 (e1 * i) ≤ bnd b2 r2 e2 (e1 * i))
/-- at most, by all moments of a common round -/
def below (b1 r1 e1 b2 r2 e2 : Int) : Bool := decide (r1 * e2 ≤ r2 * e1) && (List.range (e1 * e2).toNat).all fun t => decide (bnd b1 r1 e1 t ≤ bnd b2 r2 e2 t)
theorem all_range {n : Nat} {p : Nat → Bool} : (List.range n).all p = true ↔ ∀ i, i < n → p i = true := by
  rw [List.all_eq_true]
  exact ⟨fun h i hi => h i (List.mem_range.mpr hi), fun h i hi => h i (List.mem_range.mp hi)⟩
section
variable {b1 r1 e1 b2 r2 e2 : Int}
theorem below_iff (h1 : 0 < e1) (h2 : 0 < e2) : below b1 r1 e1 b2 r2 e2 = true ↔ r1 * e2 ≤ r2 * e1 ∧ ∀ t : Int, 0 ≤ t → t < e1 * e2 → bnd b1 r1 e1 t ≤ bnd b2 r2 e2 t := by
  unfold below
  rw [Bool.and_eq_true, decide_eq_true_iff, all_range]
  refine and_congr_right fun _ => ⟨fun h t h0 ht => ?_, fun h i hi => ?_⟩
  · have := of_decide_eq_true (h t.toNat (by omega))
    rwa [Int.toNat_of_nonneg h0] at this
  · exact decide_eq_true (h i (by omega) (by omega))
theorem atMost_iff (h1 : 0 < e1) (h2 : 0 < e2) (g2 : 0 ≤ r2) : atMost b1 r1 e1 b2 r2 e2 = true ↔ r1 * e2 ≤ r2 * e1 ∧ ∀ t : Int, 0 ≤ t → t < e1 * e2 → bnd b1 r1 e1 t ≤ bnd b2 r2 e2 t := by
  unfold atMost
  rw [Bool.and_eq_true, decide_eq_true_iff, all_range]
  refine and_congr_right fun _ => ⟨fun h t h0 ht => ?_, fun h i hi => ?_⟩
  · have q0 : 0 ≤ t / e1 := Int.ediv_nonneg h0 (by omega)
    have q1 : t / e1 < e2 := Int.ediv_lt_of_lt_mul h1 (by rw [Int.mul_comm]; exact ht)
    have := of_decide_eq_true (h (t / e1).toNat (by omega))
    rw [Int.toNat_of_nonneg q0, bnd_floor h1] at this
    exact Int.le_trans this (bnd_mono g2 h2 (Int.mul_ediv_self_le (by omega)))
  · have hi' : (i : Int) < e2 := by omega
    refine decide_eq_true (h _ (Int.mul_nonneg (by omega) (by omega)) ?_)
    exact Int.mul_lt_mul_of_pos_left hi' h1
theorem atMost_eq (h1 : 0 < e1) (h2 : 0 < e2) (g2 : 0 ≤ r2) : atMost b1 r1 e1 b2 r2 e2 = below b1 r1 e1 b2 r2 e2 :=
  Bool.eq_iff_iff.mpr ((atMost_iff h1 h2 g2).trans (below_iff h1 h2).symm)
theorem bnd_zero {b r e : Int} : bnd b r e 0 = b := by
  unfold bnd
  simp
theorem bnd_self {b r e : Int} (h : 0 < e) : bnd b r e e = b + r := by
  unfold bnd
  rw [Int.ediv_self (by omega)]
  omega
theorem bnd_small {b r e t : Int} (h0 : 0 ≤ t) (h : t < e) : bnd b r e t = b := by
  unfold bnd
  rw [Int.ediv_eq_zero_of_lt h0 h]
  simp
theorem le_of_both (h1 : 0 < e1) (h2 : 0 < e2) (g1 : 0 < r1) (h : ∀ t : Int, 0 ≤ t → t < e1 * e2 → bnd b1 r1 e1 t = bnd b2 r2 e2 t) : e2 ≤ e1 := by
  by_cases c : e1 < e2
  · have k : e1 < e1 * e2 := by
      have := Int.mul_lt_mul_of_pos_left (show (1 : Int) < e2 by omega) h1
      omega
    have q := h e1 (by omega) k
    have q0 := h 0 (by omega) (by omega)
    rw [bnd_self h1, bnd_small (by omega) c] at q
    rw [bnd_zero, bnd_zero] at q0
    omega
  · omega
theorem both_iff (h1 : 0 < e1) (h2 : 0 < e2) (g1 : 0 < r1) (g2 : 0 < r2) : (below b1 r1 e1 b2 r2 e2 && below b2 r2 e2 b1 r1 e1) = decide (b1 = b2 ∧ r1 = r2 ∧ e1 = e2) := by
  refine Bool.eq_iff_iff.mpr ?_
  rw [Bool.and_eq_true, below_iff h1 h2, below_iff h2 h1, decide_eq_true_iff]
  constructor
  · rintro ⟨⟨p, h⟩, q, k⟩
    have hk : ∀ t : Int, 0 ≤ t → t < e1 * e2 → bnd b1 r1 e1 t = bnd b2 r2 e2 t := fun t t0 t1 => Int.le_antisymm (h t t0 t1) (k t t0 (by rw [Int.mul_comm]; exact t1))
    have u := le_of_both h1 h2 g1 hk
    have v := le_of_both h2 h1 g2 fun t t0 t1 => (hk t t0 (by rw [Int.mul_comm]; exact t1)).symm
    have e : e1 = e2 := by omega
    subst e
    have z := hk 0 (by omega) (Int.mul_pos h1 h1)
    rw [bnd_zero, bnd_zero] at z
    exact ⟨z, Int.eq_of_mul_eq_mul_right (by omega) (Int.le_antisymm p q), rfl⟩
  · rintro ⟨rfl, rfl, rfl⟩
    exact ⟨⟨Int.le_refl _, fun _ _ _ => Int.le_refl _⟩, Int.le_refl _, fun _ _ _ => Int.le_refl _⟩
theorem far (h1 : 0 < e1) (h2 : 0 < e2) (h : below b1 r1 e1 b2 r2 e2 = true) {t : Int} (t0 : 0 ≤ t) : bnd b1 r1 e1 t ≤ bnd b2 r2 e2 t := by
  obtain ⟨p, k⟩ := (below_iff h1 h2).mp h
  have hp : 0 < e1 * e2 := Int.mul_pos h1 h2
  have d := Int.emod_add_mul_ediv t (e1 * e2)
  have s0 := Int.emod_nonneg t (show e1 * e2 ≠ 0 by omega)
  have s1 := Int.emod_lt_of_pos t hp
  have q0 : 0 ≤ t / (e1 * e2) := Int.ediv_nonneg t0 (by omega)
  have base := k _ s0 s1
  generalize t % (e1 * e2) = s at d s0 s1 base
  generalize t / (e1 * e2) = q at d q0
  have a1 : t / e1 = s / e1 + e2 * q := by
    rw [← d, Int.mul_assoc, Int.add_mul_ediv_left _ _ (by omega)]
  have a2 : t / e2 = s / e2 + e1 * q := by
    rw [← d, Int.mul_comm e1 e2, Int.mul_assoc, Int.add_mul_ediv_left _ _ (by omega)]
  unfold bnd at base ⊢
  rw [a1, a2, Int.mul_add, Int.mul_add, ← Int.mul_assoc, ← Int.mul_assoc]
  have w := Int.mul_le_mul_of_nonneg_right p q0
  omega
end
/-- the first moment at which so many bits are let -/
def early (b r e n : Int) : Int := e * (if 0 < -((b - n) / r) then -((b - n) / r) else 0)
theorem early_lets {b r e n : Int} (hr : 0 < r) (he : 0 < e) : n ≤ bnd b r e (early b r e n) := by
  unfold early bnd
  rw [Int.mul_ediv_cancel_left _ (by omega)]
  have d := Int.emod_add_mul_ediv (b - n) r
  have s0 := Int.emod_nonneg (b - n) (show r ≠ 0 by omega)
  generalize (b - n) / r = q at d
  generalize (b - n) % r = s at d s0
  split
  · rw [Int.mul_neg]
    omega
  · rename_i h
    have : 0 ≤ r * q := Int.mul_nonneg (by omega) (by omega)
    omega
theorem early_least {b r e n t : Int} (hr : 0 < r) (he : 0 < e) (t0 : 0 ≤ t) (h : n ≤ bnd b r e t) : early b r e n ≤ t := by
  unfold bnd at h
  unfold early
  have q0 : 0 ≤ t / e := Int.ediv_nonneg t0 (by omega)
  have le : (if 0 < -((b - n) / r) then -((b - n) / r) else 0) ≤ t / e := by
    split
    · have k : -(t / e) ≤ (b - n) / r := (Int.le_ediv_iff_mul_le hr).mpr (by
        rw [Int.neg_mul, Int.mul_comm (t / e) r]
        omega)
      omega
    · exact q0
  have := Int.mul_le_mul_of_nonneg_left le (show 0 ≤ e by omega)
  exact Int.le_trans this (Int.mul_ediv_self_le (by omega))
theorem early_anti {b1 r1 e1 b2 r2 e2 n : Int} (h1 : 0 < e1) (h2 : 0 < e2) (g1 : 0 < r1) (g2 : 0 < r2) (h : below b1 r1 e1 b2 r2 e2 = true) : early b2 r2 e2 n ≤ early b1 r1 e1 n := by
  have t0 : 0 ≤ early b1 r1 e1 n := by
    unfold early
    exact Int.mul_nonneg (by omega) (by split <;> omega)
  exact early_least g2 h2 t0 (Int.le_trans (early_lets g1 h1) (far h1 h2 h t0))
end Bk
open L2 CT
local macro_rules | `(tactic| walk_at "num") => `(tactic| (first
  | assumption
  | omega
  | exact Or.inl ⟨by omega, by omega⟩
  | exact Or.inr ⟨by omega, by omega⟩
  | exact ⟨by omega, by omega⟩
  | exact ⟨by omega, by omega, by omega⟩
  | (show (0 : Int) < _; omega)
  | exact divW (by omega) (by omega)
  | exact divV (by omega) (by omega) (by omega)
  | exact mulI (by omega) (by omega) (by omega) (by omega)
  | (show _ ∨ _; first | exact Or.inl ⟨by omega, by omega⟩ | exact Or.inr ⟨by omega, by omega⟩)
  | (show _ ∧ _; exact ⟨by omega, by omega⟩)
  | (show _ ∧ _; exact ⟨by omega, by omega, by omega⟩)))
local macro_rules | `(tactic| walk_at "bt") => `(tactic| (first
  | assumption
  | ((apply Bt.neg); (focus (walk_at "bt")))
  | ((apply Bt.mul); (focus (walk_at "bt")); (focus (walk_at "bt")))
  | ((apply Bt.add); (focus (walk_at "bt")); (focus (walk_at "bt")))
  | ((apply Bt.sub); (focus (walk_at "bt")); (focus (walk_at "bt")))
  | ((apply Bt.abs); (focus (walk_at "bt")))
  | ((apply Bt.div); (focus (walk_at "bt")); (focus (first | assumption | omega)))
  | exact Bt.of 200 (by omega) (by omega)))
local macro_rules | `(tactic| walk_at "numb") => `(tactic| (first
  | assumption
  | exact Bt.mulW (by walk_at "bt") (by walk_at "bt") (by decide)
  | exact Bt.divW (by first | assumption | omega) (by walk_at "bt") (by decide)))
local macro_rules | `(tactic| walk_at "hp") => `(tactic| (first
  | assumption
  | exact upd_same
  | ((apply same_at); (focus assumption); (focus (walk_at "hp")))
  | ((apply kp_at); (focus assumption); (focus (first | assumption | (walk_at "ne"))); (focus (walk_at "hp")))
  | ((apply xt_at); (focus assumption); (focus (walk_at "hp")); (focus (intro _ z; cases z)))
  | ((apply kx_at); (focus assumption); (focus (first | assumption | (walk_at "ne"))); (focus (walk_at "hp")); (focus (intro _ z; cases z)))
  | ((apply upd_keep); (focus assumption); (focus (walk_at "hp")))
  | ((apply upd_at); (focus assumption); (focus (walk_at "hp")))))
local macro_rules | `(tactic| walk_at "sq") => `(tactic| (first
  | assumption
  | ((apply SqL.of); (focus (walk_at "hp")))
  | ((apply SqT.of); (focus (walk_at "hp")))))
local macro_rules | `(tactic| walk_at "lk") => `(tactic| (first
  | exact lk_here
  | exact lk_nil
  | ((apply lk_skip); (focus (decide +kernel)); (focus (walk_at "lk")))
  | ((apply lk_no); (focus (decide +kernel)); (focus (walk_at "lk")))))
local macro_rules | `(tactic| walk_at "put") => `(tactic| (first
  | exact put_nil
  | exact put_here
  | ((apply put_skip); (focus (decide +kernel)); (focus (walk_at "put")))))
local macro_rules | `(tactic| walk_at "go") => `(tactic| repeat (first
  | with_reducible refine go_seq ?_
  | with_reducible refine go_asg ?_
  | ((with_reducible apply go_name); (focus (first | (dsimp only [List.set, Int.reduceToNat]; done) | (dsimp only [List.set, Int.reduceToNat]; exact rfl))))
  | with_reducible refine go_op ?_
  | ((with_reducible apply go_var); (focus (exact rfl)))
  | with_reducible refine go_c ?_
  | with_reducible refine go_cons ?_
  | with_reducible refine go_nil ?_
  | with_reducible refine go_call ?_
  | with_reducible refine go_cbLst ?_
  | with_reducible refine go_cbLen ?_
  | with_reducible refine go_cbInt ?_
  | with_reducible refine go_cbBool ?_
  | with_reducible refine go_cbAbs ?_
  | with_reducible refine go_cbMax ?_
  | with_reducible refine go_cbMin ?_
  | with_reducible refine go_cb ?_
  | with_reducible refine go_int ?_
  | with_reducible refine go_intb ?_
  | with_reducible refine go_booli ?_
  | with_reducible refine go_boolb ?_
  | with_reducible refine go_abs ?_
  | with_reducible refine go_max ?_
  | with_reducible refine go_min ?_
  | with_reducible refine go_test ?_
  | with_reducible refine go_k ?_
  | with_reducible refine go_ifS ?_
  | with_reducible refine iteT ?_
  | with_reducible refine iteF ?_
  | with_reducible refine go_nT ?_
  | with_reducible refine go_nF ?_
  | with_reducible refine go_ret ?_
  | with_reducible refine go_gcd ?_
  | with_reducible refine go_i0 ?_
  | ((with_reducible apply go_pow); (focus (walk_at "num")); (focus (first | (dsimp only [Int.reduceToNat, Int.reducePow]; done) | (dsimp only [Int.reduceToNat, Int.reducePow]; exact rfl))))
  | ((with_reducible refine go_i ?_ ?_); (focus (walk_at "num")))
  | with_reducible refine go_un ?_
  | with_reducible refine go_u ?_
  | with_reducible refine go_B ?_
  | with_reducible refine go_and ?_
  | with_reducible refine go_or ?_
  | with_reducible refine go_not ?_
  | with_reducible refine go_andV ?_
  | with_reducible refine go_orV ?_
  | with_reducible refine go_notV ?_
  | with_reducible refine go_if ?_
  | with_reducible refine go_next ?_
  | with_reducible refine go_retN ?_
  | with_reducible refine go_drop ?_
  | with_reducible refine go_lst ?_
  | with_reducible refine go_tup ?_
  | ((with_reducible refine newL_raw ?_ ?_); (focus (exact Nat.le_of_ble_eq_true rfl)))
  | ((with_reducible refine newT_raw ?_ ?_); (focus (exact Nat.le_of_ble_eq_true rfl)))
  | with_reducible refine go_fld ?_
  | ((with_reducible apply go_fldx); (focus (walk_at "hp")); (focus assumption); (focus assumption); (focus (walk_at "lk")))
  | with_reducible refine go_cval ?_
  | ((with_reducible apply go_cvalx); (focus assumption); (focus assumption))
  | with_reducible refine go_sfld ?_
  | ((with_reducible apply go_sfldx); (focus (walk_at "hp")); (focus assumption); (focus assumption); (focus (walk_at "put")); (focus (exact Nat.le_of_ble_eq_true rfl)))
  | with_reducible refine go_par ?_
  | ((with_reducible apply go_par2); (focus (first | (dsimp only [List.set, Int.reduceToNat]; done) | (dsimp only [List.set, Int.reduceToNat]; exact rfl))))
  | with_reducible refine go_sub ?_
  | ((with_reducible apply go_ixl); (focus (walk_at "sq")); (focus (exact rfl)))
  | ((with_reducible apply go_ixt); (focus (walk_at "sq")); (focus (exact rfl)))
  | ((with_reducible refine go_eq ?_ ?_); (focus (exact rfl)))
  | ((with_reducible refine go_ne ?_ ?_); (focus (exact rfl)))
  | with_reducible refine go_chain ?_
  | with_reducible refine go_yes ?_
  | with_reducible refine go_mko ?_
  | with_reducible refine go_ost ?_
  | with_reducible refine go_lc ?_
  | with_reducible refine go_make ?_
  | with_reducible refine go_maked ?_
  | with_reducible refine go_bma ?_
  | ((with_reducible apply go_bmax); (focus (walk_at "sq")))
  | with_reducible refine go_dnew ?_
  | with_reducible refine go_meth ?_
  | ((with_reducible apply go_methx); (focus (walk_at "hp")); (focus (walk_at "lk")))
  | ((with_reducible apply go_gtup); (focus (walk_at "sq")); (focus (exact rfl)))
  | with_reducible refine go_gcons ?_
  | with_reducible refine go_gnil ?_
  | with_reducible refine go_for ?_
  | with_reducible refine go_rng1 ?_
  | ((with_reducible refine go_rng1x ?_ ?_); (focus (exact ⟨by omega, by omega⟩)))
  | with_reducible refine go_rng2 ?_
  | ((with_reducible refine go_rng2x ?_ ?_); (focus (exact ⟨⟨by omega, by omega⟩, by omega, by omega⟩)))
  | with_reducible refine go_listI ?_
  | ((with_reducible apply go_listIx); (focus (walk_at "sq")))
  | with_reducible refine go_tupI ?_
  | ((with_reducible apply go_tupIx); (focus (walk_at "sq")))
  | with_reducible refine go_sl ?_
  | with_reducible refine go_part ?_
  | with_reducible refine go_i1 ?_
  | with_reducible refine go_nopart ?_
  | ((with_reducible apply go_rsl); (focus (walk_at "sq")))
  | ((with_reducible apply go_lstof); (focus (first | assumption | (apply Or.inl; (focus (walk_at "sq"))) | (apply Or.inr; (focus (walk_at "sq"))))))
  | ((with_reducible apply go_len); (focus (first | assumption | (apply Or.inl; (focus (walk_at "sq"))) | (apply Or.inr; (focus (walk_at "sq"))))))
  | ((with_reducible apply go_setL); (focus (walk_at "hp")); (focus (exact rfl)); (focus (first | (dsimp only [List.set, Int.reduceToNat]; done) | (dsimp only [List.set, Int.reduceToNat]; exact rfl))))))
local macro_rules | `(tactic| walk_at "pen") => `(tactic| (first
  | assumption
  | ((apply pn_sm); (focus assumption); (focus (walk_at "pen")))
  | ((apply pn_xt); (focus assumption); (focus (walk_at "pen")))
  | ((apply pn_kp); (focus assumption); (focus (walk_at "pen")); (focus (walk_at "ne")); (focus (walk_at "nc")))
  | ((apply pn_nw); (focus assumption); (focus (walk_at "pen")))))
local macro_rules | `(tactic| walk_at "kp") => `(tactic| (first
  | exact Kp.refl _ _
  | assumption
  | ((apply kp_sm); (focus assumption); (focus (walk_at "kp")))
  | ((apply kp_kp); (focus assumption); (focus (walk_at "kp")))
  | ((apply kp_ot); (focus assumption); (focus (walk_at "kp")); (focus (walk_at "no")))
  | exact Kp.put
  | ((apply kp_nw); (focus assumption); (focus (walk_at "kp")))))
local macro_rules | `(tactic| walk_at "kx") => `(tactic| (first
  | exact Kx.refl _ _
  | assumption
  | ((apply kx_sm); (focus assumption); (focus (walk_at "kx")))
  | ((apply kx_kp); (focus assumption); (focus (walk_at "kx")))
  | ((apply kx_kx); (focus assumption); (focus (walk_at "kx")))
  | ((apply kx_xt); (focus assumption); (focus (walk_at "kx")))
  | ((apply kx_ot); (focus assumption); (focus (walk_at "kx")); (focus (walk_at "nt")))))
local macro_rules | `(tactic| walk_at "sm") => `(tactic| (first
  | exact Same.refl _
  | assumption
  | ((apply sm_sm); (focus assumption); (focus (walk_at "sm")))
  | ((apply sm_ot); (focus assumption); (focus (walk_at "sm")); (focus (walk_at "no")))
  | ((apply sm_nw); (focus assumption); (focus (walk_at "sm")))))
local macro_rules | `(tactic| walk_at "tb") => `(tactic| (first
  | assumption
  | ((apply tabs_sm); (focus assumption); (focus (walk_at "tb")))
  | ((apply tabs_pn); (focus assumption); (focus (walk_at "pen")); (focus (walk_at "tb")))
  | ((apply tabs_ls); (focus assumption); (focus (walk_at "hp")); (focus (walk_at "tb")))))
local macro_rules | `(tactic| walk_at "od") => `(tactic| (first
  | assumption
  | ((apply odd_sm); (focus assumption); (focus (walk_at "od")))
  | ((apply odd_xt); (focus assumption); (focus (walk_at "od")))
  | ((apply odd_kp); (focus assumption); (focus (walk_at "od")); (focus (first | assumption | ((apply odd_new); (focus assumption); (focus (walk_at "od"))))))))
local macro_rules | `(tactic| walk_at "nt") => `(tactic| (first
  | assumption
  | ((apply nt_no); (focus assumption))
  | ((apply nt_sm); (focus assumption); (focus (walk_at "nt")))
  | ((apply nt_xt); (focus assumption); (focus (walk_at "nt")))
  | ((apply nt_pn); (focus assumption); (focus (walk_at "pen")); (focus (walk_at "nt")))
  | ((apply nt_kx); (focus assumption); (focus (walk_at "pen")); (focus (walk_at "nt")))
  | ((apply nt_kp); (focus assumption); (focus (walk_at "hp")); (focus (walk_at "nt")))))
local macro_rules | `(tactic| walk_at "ne") => `(tactic| (first
  | assumption
  | ((apply Ne.symm); (focus assumption))
  | ((apply pn_ne_new); (focus assumption); (focus (walk_at "pen")))
  | ((apply pn_ne_o); (focus assumption); (focus (intro _ z; cases z)); (focus (walk_at "pen")))
  | ((apply ne_old); (focus assumption); (focus (walk_at "hp")))
  | ((apply Ne.symm); (apply ne_old); (focus assumption); (focus (walk_at "hp")))
  | ((apply pn_ne_lst); (focus assumption); (focus (intro _ _ _ z; cases z)); (focus (walk_at "pen")))))
local macro_rules | `(tactic| walk_at "nc") => `(tactic| (first
  | assumption
  | ((apply pn_ne_newc); (focus assumption); (focus (walk_at "pen")))))
local macro_rules | `(tactic| walk_at "no") => `(tactic| (first
  | assumption
  | ((apply no_sm); (focus assumption); (focus (walk_at "no")))
  | ((apply no_pn); (focus assumption); (focus (walk_at "pen")); (focus (walk_at "no")))
  | ((apply no_kp); (focus assumption); (focus assumption); (focus (walk_at "no")))))
local macro_rules | `(tactic| walk_at "xt") => `(tactic| (first
  | exact LamX.ExtN.refl _
  | assumption
  | exact LamX.ExtN.of (by assumption)
  | ((apply xt_sm); (focus assumption); (focus (walk_at "xt")))
  | ((apply xt_xt); (focus assumption); (focus (walk_at "xt")))
  | ((apply xt_ot'); (focus assumption); (focus (walk_at "xt")); (focus (walk_at "nt")))))
local macro_rules | `(tactic| walk_at "gn") => `(tactic| repeat (first
  | with_reducible refine go_seq ?_
  | with_reducible refine go_asg ?_
  | ((with_reducible apply go_name); (focus (first | (dsimp only [List.set, Int.reduceToNat]; done) | (dsimp only [List.set, Int.reduceToNat]; exact rfl))))
  | with_reducible refine go_op ?_
  | ((with_reducible apply go_var); (focus (exact rfl)))
  | with_reducible refine go_c ?_
  | with_reducible refine go_cons ?_
  | with_reducible refine go_nil ?_
  | with_reducible refine go_call ?_
  | with_reducible refine go_cbLst ?_
  | with_reducible refine go_cbLen ?_
  | with_reducible refine go_cbInt ?_
  | with_reducible refine go_cbBool ?_
  | with_reducible refine go_cbAbs ?_
  | with_reducible refine go_cbMax ?_
  | with_reducible refine go_cbMin ?_
  | with_reducible refine go_cb ?_
  | with_reducible refine go_int ?_
  | with_reducible refine go_intb ?_
  | with_reducible refine go_booli ?_
  | with_reducible refine go_boolb ?_
  | with_reducible refine go_abs ?_
  | with_reducible refine go_max ?_
  | with_reducible refine go_min ?_
  | with_reducible refine go_test ?_
  | with_reducible refine go_k ?_
  | with_reducible refine go_ifS ?_
  | with_reducible refine iteT ?_
  | with_reducible refine iteF ?_
  | with_reducible refine go_nT ?_
  | with_reducible refine go_nF ?_
  | with_reducible refine go_ret ?_
  | with_reducible refine go_gcd ?_
  | with_reducible refine go_i0 ?_
  | ((with_reducible apply go_pow); (focus (walk_at "num")); (focus (first | (dsimp only [Int.reduceToNat, Int.reducePow]; done) | (dsimp only [Int.reduceToNat, Int.reducePow]; exact rfl))))
  | ((with_reducible refine go_i ?_ ?_); (focus (walk_at "num")))
  | with_reducible refine go_un ?_
  | with_reducible refine go_u ?_
  | with_reducible refine go_B ?_
  | with_reducible refine go_and ?_
  | with_reducible refine go_or ?_
  | with_reducible refine go_not ?_
  | with_reducible refine go_andV ?_
  | with_reducible refine go_orV ?_
  | with_reducible refine go_notV ?_
  | with_reducible refine go_if ?_
  | with_reducible refine go_next ?_
  | with_reducible refine go_retN ?_
  | with_reducible refine go_drop ?_
  | with_reducible refine go_lst ?_
  | with_reducible refine go_tup ?_
  | with_reducible refine go_fld ?_
  | ((with_reducible apply go_fldx); (focus (walk_at "hp")); (focus assumption); (focus assumption); (focus (walk_at "lk")))
  | with_reducible refine go_cval ?_
  | ((with_reducible apply go_cvalx); (focus assumption); (focus assumption))
  | with_reducible refine go_sfld ?_
  | ((with_reducible apply go_sfldx); (focus (walk_at "hp")); (focus assumption); (focus assumption); (focus (walk_at "put")); (focus (exact Nat.le_of_ble_eq_true rfl)))
  | with_reducible refine go_par ?_
  | ((with_reducible apply go_par2); (focus (first | (dsimp only [List.set, Int.reduceToNat]; done) | (dsimp only [List.set, Int.reduceToNat]; exact rfl))))
  | with_reducible refine go_sub ?_
  | ((with_reducible apply go_ixl); (focus (walk_at "sq")); (focus (exact rfl)))
  | ((with_reducible apply go_ixt); (focus (walk_at "sq")); (focus (exact rfl)))
  | ((with_reducible refine go_eq ?_ ?_); (focus (exact rfl)))
  | ((with_reducible refine go_ne ?_ ?_); (focus (exact rfl)))
  | with_reducible refine go_chain ?_
  | with_reducible refine go_yes ?_
  | with_reducible refine go_mko ?_
  | with_reducible refine go_ost ?_
  | with_reducible refine go_lc ?_
  | with_reducible refine go_make ?_
  | with_reducible refine go_maked ?_
  | with_reducible refine go_bma ?_
  | ((with_reducible apply go_bmax); (focus (walk_at "sq")))
  | with_reducible refine go_meth ?_
  | ((with_reducible apply go_methx); (focus (walk_at "hp")); (focus (walk_at "lk")))
  | ((with_reducible apply go_gtup); (focus (walk_at "sq")); (focus (exact rfl)))
  | with_reducible refine go_gcons ?_
  | with_reducible refine go_gnil ?_
  | with_reducible refine go_for ?_
  | with_reducible refine go_rng1 ?_
  | ((with_reducible refine go_rng1x ?_ ?_); (focus (exact ⟨by omega, by omega⟩)))
  | with_reducible refine go_rng2 ?_
  | ((with_reducible refine go_rng2x ?_ ?_); (focus (exact ⟨⟨by omega, by omega⟩, by omega, by omega⟩)))
  | with_reducible refine go_listI ?_
  | ((with_reducible apply go_listIx); (focus (walk_at "sq")))
  | with_reducible refine go_tupI ?_
  | ((with_reducible apply go_tupIx); (focus (walk_at "sq")))
  | with_reducible refine go_sl ?_
  | with_reducible refine go_part ?_
  | with_reducible refine go_i1 ?_
  | with_reducible refine go_nopart ?_
  | ((with_reducible apply go_len); (focus (first | assumption | (apply Or.inl; (focus (walk_at "sq"))) | (apply Or.inr; (focus (walk_at "sq"))))))
  | ((with_reducible apply go_setL); (focus (walk_at "hp")); (focus (exact rfl)); (focus (first | (dsimp only [List.set, Int.reduceToNat]; done) | (dsimp only [List.set, Int.reduceToNat]; exact rfl))))))
local macro_rules | `(tactic| walk_at "sz") => `(tactic| (first
  | exact Nat.le_of_ble_eq_true rfl
  | omega
  | ((simp only [List.length_append, List.length_cons, List.length_nil, List.length_map]); omega)))
local macro_rules | `(tactic| walk_at "ls") => `(tactic| (first
  | (dsimp only [Int.reduceToNat, List.replicate, List.flatten_cons, List.flatten_nil, List.cons_append, List.nil_append]; done)
  | (dsimp only [Int.reduceToNat, List.replicate, List.flatten_cons, List.flatten_nil, List.cons_append, List.nil_append]; exact rfl)
  | exact rfl))
local macro_rules | `(tactic| walk_at "gm1") => `(tactic| (first
  | with_reducible refine go_seq ?_
  | with_reducible refine go_asg ?_
  | ((with_reducible apply go_name); (focus (first | (dsimp only [List.set, Int.reduceToNat]; done) | (dsimp only [List.set, Int.reduceToNat]; exact rfl))))
  | with_reducible refine go_op ?_
  | ((with_reducible apply go_var); (focus (exact rfl)))
  | with_reducible refine go_c ?_
  | with_reducible refine go_cons ?_
  | with_reducible refine go_nil ?_
  | with_reducible refine go_call ?_
  | with_reducible refine go_calld ?_
  | with_reducible refine go_cbLst ?_
  | with_reducible refine go_cbLen ?_
  | with_reducible refine go_cbInt ?_
  | with_reducible refine go_cbBool ?_
  | with_reducible refine go_cbAbs ?_
  | with_reducible refine go_cbMax ?_
  | with_reducible refine go_cbMin ?_
  | with_reducible refine go_cb ?_
  | with_reducible refine go_int ?_
  | with_reducible refine go_intb ?_
  | with_reducible refine go_booli ?_
  | with_reducible refine go_boolb ?_
  | with_reducible refine go_abs ?_
  | with_reducible refine go_max ?_
  | with_reducible refine go_min ?_
  | with_reducible refine go_test ?_
  | with_reducible refine go_k ?_
  | with_reducible refine go_ifS ?_
  | with_reducible refine iteT ?_
  | with_reducible refine iteF ?_
  | with_reducible refine go_nT ?_
  | with_reducible refine go_nF ?_
  | with_reducible refine go_nnF ?_
  | with_reducible refine go_nnT ?_
  | with_reducible refine scal_bl ?_
  | with_reducible refine scal_nbl ?_
  | with_reducible refine go_ret ?_
  | with_reducible refine go_gcd ?_
  | with_reducible refine go_i0 ?_
  | ((with_reducible apply go_pow); (focus (walk_at "num")); (focus (first | (dsimp only [Int.reduceToNat, Int.reducePow]; done) | (dsimp only [Int.reduceToNat, Int.reducePow]; exact rfl))))
  | ((with_reducible refine go_i ?_ ?_); (focus (walk_at "num")))
  | with_reducible refine go_un ?_
  | with_reducible refine go_u ?_
  | with_reducible refine go_B ?_
  | with_reducible refine go_and ?_
  | with_reducible refine go_or ?_
  | with_reducible refine go_not ?_
  | with_reducible refine go_andV ?_
  | with_reducible refine go_orV ?_
  | with_reducible refine go_notV ?_
  | with_reducible refine go_if ?_
  | with_reducible refine go_next ?_
  | with_reducible refine go_retN ?_
  | with_reducible refine go_drop ?_
  | with_reducible refine go_lst ?_
  | with_reducible refine go_tup ?_
  | with_reducible refine go_fld ?_
  | ((with_reducible apply go_fldx); (focus (walk_at "hp")); (focus assumption); (focus assumption); (focus (walk_at "lk")))
  | with_reducible refine go_cval ?_
  | ((with_reducible apply go_cvalx); (focus assumption); (focus assumption))
  | with_reducible refine go_sfld ?_
  | ((with_reducible apply go_sfldx); (focus (walk_at "hp")); (focus assumption); (focus assumption); (focus (walk_at "put")); (focus (exact Nat.le_of_ble_eq_true rfl)))
  | with_reducible refine go_par ?_
  | ((with_reducible apply go_par2); (focus (first | (dsimp only [List.set, Int.reduceToNat]; done) | (dsimp only [List.set, Int.reduceToNat]; exact rfl))))
  | with_reducible refine go_sub ?_
  | ((with_reducible apply go_ixl); (focus (walk_at "sq")); (focus (exact rfl)))
  | ((with_reducible apply go_ixt); (focus (walk_at "sq")); (focus (exact rfl)))
  | with_reducible refine go_m0 ?_
  | with_reducible refine go_s0 ?_
  | with_reducible refine go_m1 ?_
  | with_reducible refine go_m1s ?_
  | with_reducible refine go_cm ?_
  | with_reducible refine go_cmK ?_
  | ((with_reducible refine go_cmx ?_ ?_); (focus (exact rfl)))
  | ((with_reducible apply go_mkL); (focus (exact rfl)))
  | with_reducible refine go_strI ?_
  | with_reducible refine go_strIx ?_
  | with_reducible refine go_enumI ?_
  | ((with_reducible apply go_enumIx); (focus (walk_at "sq")))
  | with_reducible refine go_eqI ?_
  | with_reducible refine go_jsc ?_
  | with_reducible refine go_jsn ?_
  | with_reducible refine go_fmt ?_
  | with_reducible refine repr_bl ?_
  | with_reducible refine go_mkK ?_
  | ((with_reducible apply go_aug); (focus (exact rfl)))
  | with_reducible refine go_methK ?_
  | ((with_reducible apply methK_x); (focus (walk_at "hp")); (focus (walk_at "lk")))
  | with_reducible refine go_kS ?_
  | ((with_reducible apply mkK_of); (focus (exact rfl)); (focus (exact rfl)); (focus (exact fun _ => rfl)))
  | ((with_reducible apply go_own1); (focus (walk_at "hp")))
  | ((with_reducible apply go_ownA); (focus (walk_at "hp")))
  | ((with_reducible apply go_ownB); (focus (walk_at "hp")))
  | ((with_reducible apply go_ownS); (focus (walk_at "hp")))
  | ((with_reducible apply go_ownN); (focus (walk_at "hp")))
  | with_reducible refine isN_ref ?_
  | with_reducible refine isN_non ?_
  | with_reducible refine isN_int ?_
  | with_reducible refine isN_str ?_
  | with_reducible refine isN_bl ?_
  | with_reducible refine notN_ref ?_
  | with_reducible refine notN_non ?_
  | with_reducible refine notN_int ?_
  | with_reducible refine notN_str ?_
  | with_reducible refine notN_bl ?_
  | with_reducible refine go_neI ?_
  | ((with_reducible refine go_eq ?_ ?_); (focus (exact rfl)))
  | ((with_reducible refine go_ne ?_ ?_); (focus (exact rfl)))
  | with_reducible refine go_chain ?_
  | with_reducible refine go_yes ?_
  | with_reducible refine go_mko ?_
  | with_reducible refine go_ost ?_
  | with_reducible refine go_lc ?_
  | with_reducible refine go_make ?_
  | with_reducible refine go_maked ?_
  | with_reducible refine go_bma ?_
  | ((with_reducible apply go_bmax); (focus (walk_at "sq")))
  | with_reducible refine go_bmp ?_
  | ((with_reducible apply go_bmpx); (focus (walk_at "sq")))
  | with_reducible refine go_meth ?_
  | ((with_reducible apply go_methx); (focus (walk_at "hp")); (focus (walk_at "lk")))
  | ((with_reducible apply go_gtup); (focus (walk_at "sq")); (focus (exact rfl)))
  | ((with_reducible apply go_glst); (focus (walk_at "sq")); (focus (exact rfl)))
  | ((with_reducible refine disp1_gm ?_); (intro _ _ _ _ _))
  | with_reducible refine go_gcons ?_
  | with_reducible refine go_gnil ?_
  | with_reducible refine go_for ?_
  | with_reducible refine go_rng1 ?_
  | ((with_reducible refine go_rng1x ?_ ?_); (focus (exact ⟨by omega, by omega⟩)))
  | with_reducible refine go_rng2 ?_
  | ((with_reducible refine go_rng2x ?_ ?_); (focus (exact ⟨⟨by omega, by omega⟩, by omega, by omega⟩)))
  | with_reducible refine go_listI ?_
  | ((with_reducible apply go_listIx); (focus (walk_at "sq")))
  | with_reducible refine go_tupI ?_
  | ((with_reducible apply go_tupIx); (focus (walk_at "sq")))
  | with_reducible refine go_sl ?_
  | with_reducible refine go_part ?_
  | with_reducible refine go_i1 ?_
  | with_reducible refine go_nopart ?_
  | ((with_reducible apply go_len); (focus (first | assumption | (apply Or.inl; (focus (walk_at "sq"))) | (apply Or.inr; (focus (walk_at "sq"))))))
  | ((with_reducible apply go_setL); (focus (walk_at "hp")); (focus (exact rfl)); (focus (first | (dsimp only [List.set, Int.reduceToNat]; done) | (dsimp only [List.set, Int.reduceToNat]; exact rfl))))
  | ((with_reducible refine newL ?_ (fun _ _ _ _ _ => ?_)); (focus (exact Nat.le_of_ble_eq_true rfl)))
  | ((with_reducible refine newT ?_ (fun _ _ _ _ _ => ?_)); (focus (exact Nat.le_of_ble_eq_true rfl)))
  | ((with_reducible apply draw_gm); (focus (walk_at "pen")); (focus omega); (focus omega); (focus omega); (intro _ _ _ _ _ _))
  | ((with_reducible apply pick_gm); (focus (walk_at "pen")); (focus omega); (focus (walk_at "hp")); (focus (walk_at "ne")); (focus (intro z; cases z)); (focus (exact Nat.le_of_ble_eq_true rfl)); (intro _ _ _ _ _))
  | ((with_reducible apply app_gm); (focus (walk_at "hp")); (focus (walk_at "sz")); (focus (walk_at "ls")); (intro _ _ _))
  | ((with_reducible apply rep_gm); (focus (walk_at "hp")); (focus (decide)); (focus (decide)); (focus (walk_at "sz")); (focus (walk_at "ls")); (intro _ _ _ _ _))
  | ((with_reducible apply cat_gm); (focus (walk_at "hp")); (focus (walk_at "hp")); (focus (walk_at "ls")); (focus (walk_at "sz")); (intro _ _ _ _ _))
  | ((with_reducible apply lstof_gm); (focus (first | assumption | (apply Or.inl; (focus (walk_at "sq"))) | (apply Or.inr; (focus (walk_at "sq"))))); (intro _ _ _ _ _))
  | ((with_reducible apply dnew_gm); (intro _ _ _ _ _))
  | ((with_reducible apply sl_gm); (focus (walk_at "sq")); (intro _ _ _ _ _))
  | ((with_reducible apply pickt_gm); (focus (walk_at "pen")); (focus omega); (focus (walk_at "hp")); (focus (walk_at "ne")); (focus (intro z; cases z)); (focus (exact Nat.le_of_ble_eq_true rfl)); (intro _ _ _ _ _))))
local macro_rules | `(tactic| walk_at "gm") => `(tactic| repeat (walk_at "gm1"))
namespace K53
open PySem PySem.Spec PyProof.Rows L2 CT
open He (ga ma fAd)
def top (i : Nat) : Stmt := PySem.Challenge.pw_creditturns_k53_buckets_compared.main.body.getD i (.Pass ⟨0, 0, 0, 0⟩)
abbrev s_is_integer : Stmt := top 17
theorem sc_is_integer : FnScope ["value"] ["value"] (defScope s_is_integer) := ⟨rfl, rfl, rfl, by decide +kernel, rfl, by decide +kernel, by decide +kernel⟩
abbrev s_is_count : Stmt := top 18
theorem sc_is_count : FnScope ["value"] ["value"] (defScope s_is_count) := ⟨rfl, rfl, rfl, by decide +kernel, rfl, by decide +kernel, by decide +kernel⟩
abbrev s_is_within : Stmt := top 19
theorem sc_is_within : FnScope ["value", "least", "most"] ["value", "least", "most"] (defScope s_is_within) := ⟨rfl, rfl, rfl, by decide +kernel, rfl, by decide +kernel, by decide +kernel⟩
abbrev s_check_count : Stmt := top 20
theorem sc_check_count : FnScope ["value"] ["value"] (defScope s_check_count) := ⟨rfl, rfl, rfl, by decide +kernel, rfl, by decide +kernel, by decide +kernel⟩
abbrev s_Bucket___init__ : Stmt := inClass (top 37) 3
theorem sc_Bucket___init__ : FnScope ["self", "burst", "rate", "every"] ["self", "burst", "rate", "every"] (defScope s_Bucket___init__) := ⟨rfl, rfl, rfl, by decide +kernel, rfl, by decide +kernel, by decide +kernel⟩
abbrev s_bound_of : Stmt := top 38
theorem sc_bound_of : FnScope ["bucket", "ticks"] ["bucket", "ticks"] (defScope s_bound_of) := ⟨rfl, rfl, rfl, by decide +kernel, rfl, by decide +kernel, by decide +kernel⟩
abbrev s_Bucket_earliest : Stmt := inClass (top 37) 6
theorem sc_Bucket_earliest : FnScope ["self", "bits"] ["self", "bits"] (defScope s_Bucket_earliest) := ⟨rfl, rfl, rfl, by decide +kernel, rfl, by decide +kernel, by decide +kernel⟩
abbrev s_check_other : Stmt := top 39
theorem sc_check_other : FnScope ["other"] ["other"] (defScope s_check_other) := ⟨rfl, rfl, rfl, by decide +kernel, rfl, by decide +kernel, by decide +kernel⟩
abbrev s_Bucket___eq__ : Stmt := inClass (top 37) 15
theorem sc_Bucket___eq__ : FnScope ["self", "other"] ["self", "other"] (defScope s_Bucket___eq__) := ⟨rfl, rfl, rfl, by decide +kernel, rfl, by decide +kernel, by decide +kernel⟩
abbrev s_is_at_most : Stmt := top 40
theorem sc_is_at_most : FnScope ["one", "other", "moments", "times", "moment"] ["one", "other"] (defScope s_is_at_most) := ⟨rfl, rfl, rfl, by decide +kernel, rfl, by decide +kernel, by decide +kernel⟩
abbrev s_Bucket___le__ : Stmt := inClass (top 37) 11
theorem sc_Bucket___le__ : FnScope ["self", "other"] ["self", "other"] (defScope s_Bucket___le__) := ⟨rfl, rfl, rfl, by decide +kernel, rfl, by decide +kernel, by decide +kernel⟩
abbrev s_Bucket___ge__ : Stmt := inClass (top 37) 13
theorem sc_Bucket___ge__ : FnScope ["self", "other"] ["self", "other"] (defScope s_Bucket___ge__) := ⟨rfl, rfl, rfl, by decide +kernel, rfl, by decide +kernel, by decide +kernel⟩
abbrev s_Bucket___lt__ : Stmt := inClass (top 37) 12
theorem sc_Bucket___lt__ : FnScope ["self", "other"] ["self", "other"] (defScope s_Bucket___lt__) := ⟨rfl, rfl, rfl, by decide +kernel, rfl, by decide +kernel, by decide +kernel⟩
abbrev s_Bucket___gt__ : Stmt := inClass (top 37) 14
theorem sc_Bucket___gt__ : FnScope ["self", "other"] ["self", "other"] (defScope s_Bucket___gt__) := ⟨rfl, rfl, rfl, by decide +kernel, rfl, by decide +kernel, by decide +kernel⟩
abbrev s_BadBucket___init__ : Stmt := inClass (top 8) 0
theorem sc_BadBucket___init__ : FnScope ["self", "part"] ["self", "part"] (defScope s_BadBucket___init__) := ⟨rfl, rfl, rfl, by decide +kernel, rfl, by decide +kernel, by decide +kernel⟩
abbrev s__law_pen : Stmt := top 44
theorem sc__law_pen : FnScope ["_law_script"] ["_law_script"] (defScope s__law_pen) := ⟨rfl, rfl, rfl, by decide +kernel, rfl, by decide +kernel, by decide +kernel⟩
abbrev s__law_draw : Stmt := top 45
theorem sc__law_draw : FnScope ["_law_pen_here", "_law_many", "_law_digit", "_law_at", "_law_cell", "_law_great", "_law_mixed"] ["_law_pen_here", "_law_many"] (defScope s__law_draw) := ⟨rfl, rfl, rfl, by decide +kernel, rfl, by decide +kernel, by decide +kernel⟩
abbrev s__law_pick : Stmt := top 46
theorem sc__law_pick : FnScope ["_law_pen_here", "_law_some"] ["_law_pen_here", "_law_some"] (defScope s__law_pick) := ⟨rfl, rfl, rfl, by decide +kernel, rfl, by decide +kernel, by decide +kernel⟩
abbrev s__law_is_below : Stmt := top 47
theorem sc__law_is_below : FnScope ["_law_one", "_law_other", "_law_far"] ["_law_one", "_law_other"] (defScope s__law_is_below) := ⟨rfl, rfl, rfl, by decide +kernel, rfl, by decide +kernel, by decide +kernel⟩
abbrev s__law_parts : Stmt := top 48
theorem sc__law_parts : FnScope ["_law_pen_here"] ["_law_pen_here"] (defScope s__law_parts) := ⟨rfl, rfl, rfl, by decide +kernel, rfl, by decide +kernel, by decide +kernel⟩
abbrev s__law_near : Stmt := top 49
theorem sc__law_near : FnScope ["_law_pen_here", "_law_parts_here", "_law_way", "_law_by", "_law_at", "_law_step", "_law_k"] ["_law_pen_here", "_law_parts_here"] (defScope s__law_near) := ⟨rfl, rfl, rfl, by decide +kernel, rfl, by decide +kernel, by decide +kernel⟩
abbrev s__law_pair_right : Stmt := top 51
theorem sc__law_pair_right : FnScope ["_law_one", "_law_other", "_law_left", "_law_right", "_law_below", "_law_above", "_law_told", "_law_due", "_law_some", "_law_bits_so"] ["_law_one", "_law_other"] (defScope s__law_pair_right) := ⟨rfl, rfl, rfl, by decide +kernel, rfl, by decide +kernel, by decide +kernel⟩
abbrev s_law : Stmt := top 52
theorem sc_law : FnScope ["_law_script", "_law_pen_here", "_law_lap", "_law_one", "_law_other", "_law_third", "_law_first", "_law_second", "_law_heard_here", "_law_late", "_law_far", "_law_near_here", "_law_made", "_law_odd"] ["_law_script"] (defScope s_law) := ⟨rfl, rfl, rfl, by decide +kernel, rfl, by decide +kernel, by decide +kernel⟩
abbrev s__law_heard : Stmt := top 50
theorem sc__law_heard : FnScope ["_law_ask", "_law_caught", "error"] ["_law_ask"] (defScope s__law_heard) := ⟨rfl, rfl, rfl, by decide +kernel, rfl, by decide +kernel, by decide +kernel⟩
def sys : Sys := {
  fa := [.free "int", .free "isinstance", .free "bool", .glo "Bucket", .free "max", .free "range", .free "all", .free "list", .free "len", .free "abs", .free "repr", .glo "law", .glo "is_integer", .glo "is_count", .glo "is_within", .glo "check_count", .glo "bound_of", .glo "check_other", .glo "is_at_most", .glo "BadBucket", .glo "_law_pen", .glo "_law_draw", .glo "_law_pick", .glo "_law_is_below", .glo "_law_parts", .glo "_law_near", .glo "CreditError", .glo "_law_pair_right", .glo "_law_heard", .noat "BadBucket" "part", .cls "Bucket", .mkr "Bucket", .noat "Bucket" "burst", .noat "Bucket" "rate", .noat "Bucket" "every", .meth "Bucket" "earliest"],
  fc := [.exo "BadBucket", .exb "BadBucket", .ins "Bucket", .ne "Bucket", .cread "Bucket", .cval "Bucket" "MOST_BURST" (.int 1000000), .cval "Bucket" "MOST_RATE" (.int 1000), .cval "Bucket" "MOST_EVERY" (.int 1000), .op "Bucket" "__eq__", .op "Bucket" "__le__", .op "Bucket" "__ge__", .first "Bucket" (.own "Bucket"), .op "Bucket" "__lt__", .op "Bucket" "__gt__", .first "Bucket" (.ty "NoneType"), .first "Bucket" (.ty "int"), .first "Bucket" (.ty "bool"), .first "Bucket" (.ty "str"), .first "Bucket" (.ty "list"), .first "Bucket" (.ty "tuple"), .first "Bucket" (.ty "dict"), .kit (.own "Bucket") (.own "Bucket") true, .kit (.own "BadBucket") (.own "BadBucket") true, .kit (.ty "NoneType") (.own "Bucket") false, .kit (.ty "int") (.own "Bucket") false, .kit (.ty "bool") (.own "Bucket") false, .kit (.ty "str") (.own "Bucket") false, .kit (.ty "list") (.own "Bucket") false, .kit (.ty "tuple") (.own "Bucket") false, .kit (.ty "dict") (.own "Bucket") false, .exm "BadBucket" "CreditError" true],
  fn := [{ at_ := .fn "is_integer", name := "is_integer", qual := "is_integer", st := s_is_integer },
    { at_ := .fn "is_count", name := "is_count", qual := "is_count", st := s_is_count },
    { at_ := .fn "is_within", name := "is_within", qual := "is_within", st := s_is_within },
    { at_ := .fn "check_count", name := "check_count", qual := "check_count", st := s_check_count },
    { at_ := .me "Bucket" "__init__", name := "__init__", qual := "Bucket.__init__", st := s_Bucket___init__ },
    { at_ := .fn "bound_of", name := "bound_of", qual := "bound_of", st := s_bound_of },
    { at_ := .me "Bucket" "earliest", name := "earliest", qual := "Bucket.earliest", st := s_Bucket_earliest },
    { at_ := .fn "check_other", name := "check_other", qual := "check_other", st := s_check_other },
    { at_ := .me "Bucket" "__eq__", name := "__eq__", qual := "Bucket.__eq__", st := s_Bucket___eq__ },
    { at_ := .fn "is_at_most", name := "is_at_most", qual := "is_at_most", st := s_is_at_most },
    { at_ := .me "Bucket" "__le__", name := "__le__", qual := "Bucket.__le__", st := s_Bucket___le__ },
    { at_ := .me "Bucket" "__ge__", name := "__ge__", qual := "Bucket.__ge__", st := s_Bucket___ge__ },
    { at_ := .me "Bucket" "__lt__", name := "__lt__", qual := "Bucket.__lt__", st := s_Bucket___lt__ },
    { at_ := .me "Bucket" "__gt__", name := "__gt__", qual := "Bucket.__gt__", st := s_Bucket___gt__ },
    { at_ := .me "BadBucket" "__init__", name := "__init__", qual := "BadBucket.__init__", st := s_BadBucket___init__ },
    { at_ := .fn "_law_pen", name := "_law_pen", qual := "_law_pen", st := s__law_pen },
    { at_ := .fn "_law_draw", name := "_law_draw", qual := "_law_draw", st := s__law_draw },
    { at_ := .fn "_law_pick", name := "_law_pick", qual := "_law_pick", st := s__law_pick },
    { at_ := .fn "_law_is_below", name := "_law_is_below", qual := "_law_is_below", st := s__law_is_below },
    { at_ := .fn "_law_parts", name := "_law_parts", qual := "_law_parts", st := s__law_parts },
    { at_ := .fn "_law_near", name := "_law_near", qual := "_law_near", st := s__law_near },
    { at_ := .fn "_law_pair_right", name := "_law_pair_right", qual := "_law_pair_right", st := s__law_pair_right },
    { at_ := .fn "law", name := "law", qual := "law", st := s_law },
    { at_ := .fn "_law_heard", name := "_law_heard", qual := "_law_heard", st := s__law_heard }],
  tf := [.fn "law"] }
section
variable {K : PySem.W.Frag} {mg : Str → Option Value}
theorem n_int (S : HD sys K mg) : mg "int" = none := S.free (S.fact 0)
theorem n_isinstance (S : HD sys K mg) : mg "isinstance" = none := S.free (S.fact 1)
theorem n_bool (S : HD sys K mg) : mg "bool" = none := S.free (S.fact 2)
theorem g_Bucket (S : HD sys K mg) : mg "Bucket" = some (.ref (ga K "Bucket")) := S.glo (S.fact 3)
theorem n_max (S : HD sys K mg) : mg "max" = none := S.free (S.fact 4)
theorem n_range (S : HD sys K mg) : mg "range" = none := S.free (S.fact 5)
theorem n_all (S : HD sys K mg) : mg "all" = none := S.free (S.fact 6)
theorem n_list (S : HD sys K mg) : mg "list" = none := S.free (S.fact 7)
theorem n_len (S : HD sys K mg) : mg "len" = none := S.free (S.fact 8)
theorem n_abs (S : HD sys K mg) : mg "abs" = none := S.free (S.fact 9)
theorem n_repr (S : HD sys K mg) : mg "repr" = none := S.free (S.fact 10)
theorem g_law (S : HD sys K mg) : mg "law" = some (.ref (ga K "law")) := S.glo (S.fact 11)
theorem g_is_integer (S : HD sys K mg) : mg "is_integer" = some (.ref (ga K "is_integer")) := S.glo (S.fact 12)
theorem g_is_count (S : HD sys K mg) : mg "is_count" = some (.ref (ga K "is_count")) := S.glo (S.fact 13)
theorem g_is_within (S : HD sys K mg) : mg "is_within" = some (.ref (ga K "is_within")) := S.glo (S.fact 14)
theorem g_check_count (S : HD sys K mg) : mg "check_count" = some (.ref (ga K "check_count")) := S.glo (S.fact 15)
theorem g_bound_of (S : HD sys K mg) : mg "bound_of" = some (.ref (ga K "bound_of")) := S.glo (S.fact 16)
theorem g_check_other (S : HD sys K mg) : mg "check_other" = some (.ref (ga K "check_other")) := S.glo (S.fact 17)
theorem g_is_at_most (S : HD sys K mg) : mg "is_at_most" = some (.ref (ga K "is_at_most")) := S.glo (S.fact 18)
theorem g_BadBucket (S : HD sys K mg) : mg "BadBucket" = some (.ref (ga K "BadBucket")) := S.glo (S.fact 19)
theorem g__law_pen (S : HD sys K mg) : mg "_law_pen" = some (.ref (ga K "_law_pen")) := S.glo (S.fact 20)
theorem g__law_draw (S : HD sys K mg) : mg "_law_draw" = some (.ref (ga K "_law_draw")) := S.glo (S.fact 21)
theorem g__law_pick (S : HD sys K mg) : mg "_law_pick" = some (.ref (ga K "_law_pick")) := S.glo (S.fact 22)
theorem g__law_is_below (S : HD sys K mg) : mg "_law_is_below" = some (.ref (ga K "_law_is_below")) := S.glo (S.fact 23)
theorem g__law_parts (S : HD sys K mg) : mg "_law_parts" = some (.ref (ga K "_law_parts")) := S.glo (S.fact 24)
theorem g__law_near (S : HD sys K mg) : mg "_law_near" = some (.ref (ga K "_law_near")) := S.glo (S.fact 25)
theorem g_CreditError (S : HD sys K mg) : mg "CreditError" = some (.ref (ga K "CreditError")) := S.glo (S.fact 26)
theorem g__law_pair_right (S : HD sys K mg) : mg "_law_pair_right" = some (.ref (ga K "_law_pair_right")) := S.glo (S.fact 27)
theorem g__law_heard (S : HD sys K mg) : mg "_law_heard" = some (.ref (ga K "_law_heard")) := S.glo (S.fact 28)
theorem exo_BadBucket (S : HD sys K mg) : ExoC K (ga K "BadBucket") (ma K (ga K "BadBucket") "__init__") := exo_f (S.fcc 0) (S.fcc 1)
theorem exb_BadBucket (S : HD sys K mg) : XfC K (ga K "BadBucket") ∧ ExcC K (ga K "BadBucket") ∧ PySem.W.typeIn K (.ref (ga K "BadBucket")) = some (.type "type") := exb_f (S.fcc 1)
theorem na_BadBucket_part (S : HD sys K mg) : NoAttr K (ga K "BadBucket") "part" := He.noat_ok (S.fact 29)
theorem C_Bucket (S : HD sys K mg) : Cls K (ga K "Bucket") := He.cls_ok (S.fact 30)
theorem mk_Bucket (S : HD sys K mg) : Mk K (ga K "Bucket") (ma K (ga K "Bucket") "__init__") := He.mkr_ok (S.fact 31)
theorem in_Bucket (S : HD sys K mg) : InsC K (ga K "Bucket") := ins_f (S.fcc 2) (He.cls_ok (S.fact 30))
theorem ne_Bucket (S : HD sys K mg) : PySem.W.findIn K (.ref (ga K "Bucket")) "__ne__" = some (some (.builtin "object.__ne__")) := ne_f (S.fcc 3)
theorem cr_Bucket (S : HD sys K mg) : ClX.CRead K (ga K "Bucket") (clsMc K (ga K "Bucket")) := cread_f (S.fcc 4)
theorem na_Bucket_burst (S : HD sys K mg) : NoAttr K (ga K "Bucket") "burst" := He.noat_ok (S.fact 32)
theorem na_Bucket_rate (S : HD sys K mg) : NoAttr K (ga K "Bucket") "rate" := He.noat_ok (S.fact 33)
theorem na_Bucket_every (S : HD sys K mg) : NoAttr K (ga K "Bucket") "every" := He.noat_ok (S.fact 34)
theorem cv_Bucket_MOST_BURST (S : HD sys K mg) : ∃ u, ClX.CVal K (ga K "Bucket") (clsMc K (ga K "Bucket")) "MOST_BURST" (.int 1000000) u := cval_f (S.fcc 5)
theorem cv_Bucket_MOST_RATE (S : HD sys K mg) : ∃ u, ClX.CVal K (ga K "Bucket") (clsMc K (ga K "Bucket")) "MOST_RATE" (.int 1000) u := cval_f (S.fcc 6)
theorem cv_Bucket_MOST_EVERY (S : HD sys K mg) : ∃ u, ClX.CVal K (ga K "Bucket") (clsMc K (ga K "Bucket")) "MOST_EVERY" (.int 1000) u := cval_f (S.fcc 7)
theorem mt_Bucket_earliest (S : HD sys K mg) : Meth K (ga K "Bucket") "earliest" (ma K (ga K "Bucket") "earliest") := He.meth_ok (S.fact 35)
theorem opf_Bucket___eq__ (S : HD sys K mg) : PySem.W.findIn K (.ref (ga K "Bucket")) "__eq__" = some (some (.ref (ma K (ga K "Bucket") "__eq__"))) ∧ PySem.W.isFn K (.ref (ma K (ga K "Bucket") "__eq__")) = true := op_f (S.fcc 8)
theorem opf_Bucket___le__ (S : HD sys K mg) : PySem.W.findIn K (.ref (ga K "Bucket")) "__le__" = some (some (.ref (ma K (ga K "Bucket") "__le__"))) ∧ PySem.W.isFn K (.ref (ma K (ga K "Bucket") "__le__")) = true := op_f (S.fcc 9)
theorem opf_Bucket___ge__ (S : HD sys K mg) : PySem.W.findIn K (.ref (ga K "Bucket")) "__ge__" = some (some (.ref (ma K (ga K "Bucket") "__ge__"))) ∧ PySem.W.isFn K (.ref (ma K (ga K "Bucket") "__ge__")) = true := op_f (S.fcc 10)
theorem fr_Bucket_o_Bucket (S : HD sys K mg) : PySem.W.notFirst K (ga K "Bucket") (Nm.val K (.own "Bucket")) = true := first_f (S.fcc 11)
theorem opf_Bucket___lt__ (S : HD sys K mg) : PySem.W.findIn K (.ref (ga K "Bucket")) "__lt__" = some (some (.ref (ma K (ga K "Bucket") "__lt__"))) ∧ PySem.W.isFn K (.ref (ma K (ga K "Bucket") "__lt__")) = true := op_f (S.fcc 12)
theorem opf_Bucket___gt__ (S : HD sys K mg) : PySem.W.findIn K (.ref (ga K "Bucket")) "__gt__" = some (some (.ref (ma K (ga K "Bucket") "__gt__"))) ∧ PySem.W.isFn K (.ref (ma K (ga K "Bucket") "__gt__")) = true := op_f (S.fcc 13)
theorem fr_Bucket_NoneType (S : HD sys K mg) : PySem.W.notFirst K (ga K "Bucket") (Nm.val K (.ty "NoneType")) = true := first_f (S.fcc 14)
theorem fr_Bucket_int (S : HD sys K mg) : PySem.W.notFirst K (ga K "Bucket") (Nm.val K (.ty "int")) = true := first_f (S.fcc 15)
theorem fr_Bucket_bool (S : HD sys K mg) : PySem.W.notFirst K (ga K "Bucket") (Nm.val K (.ty "bool")) = true := first_f (S.fcc 16)
theorem fr_Bucket_str (S : HD sys K mg) : PySem.W.notFirst K (ga K "Bucket") (Nm.val K (.ty "str")) = true := first_f (S.fcc 17)
theorem fr_Bucket_list (S : HD sys K mg) : PySem.W.notFirst K (ga K "Bucket") (Nm.val K (.ty "list")) = true := first_f (S.fcc 18)
theorem fr_Bucket_tuple (S : HD sys K mg) : PySem.W.notFirst K (ga K "Bucket") (Nm.val K (.ty "tuple")) = true := first_f (S.fcc 19)
theorem fr_Bucket_dict (S : HD sys K mg) : PySem.W.notFirst K (ga K "Bucket") (Nm.val K (.ty "dict")) = true := first_f (S.fcc 20)
theorem kit_o_Bucket__o_Bucket__true (S : HD sys K mg) : PySem.W.kitOne K (Nm.val K (.own "Bucket")) (Nm.val K (.own "Bucket")) = some true := kit_f (S.fcc 21)
theorem kit_o_BadBucket__o_BadBucket__true (S : HD sys K mg) : PySem.W.kitOne K (Nm.val K (.own "BadBucket")) (Nm.val K (.own "BadBucket")) = some true := kit_f (S.fcc 22)
theorem kit_NoneType__o_Bucket__false (S : HD sys K mg) : PySem.W.kitOne K (Nm.val K (.ty "NoneType")) (Nm.val K (.own "Bucket")) = some false := kit_f (S.fcc 23)
theorem kit_int__o_Bucket__false (S : HD sys K mg) : PySem.W.kitOne K (Nm.val K (.ty "int")) (Nm.val K (.own "Bucket")) = some false := kit_f (S.fcc 24)
theorem kit_bool__o_Bucket__false (S : HD sys K mg) : PySem.W.kitOne K (Nm.val K (.ty "bool")) (Nm.val K (.own "Bucket")) = some false := kit_f (S.fcc 25)
theorem kit_str__o_Bucket__false (S : HD sys K mg) : PySem.W.kitOne K (Nm.val K (.ty "str")) (Nm.val K (.own "Bucket")) = some false := kit_f (S.fcc 26)
theorem kit_list__o_Bucket__false (S : HD sys K mg) : PySem.W.kitOne K (Nm.val K (.ty "list")) (Nm.val K (.own "Bucket")) = some false := kit_f (S.fcc 27)
theorem kit_tuple__o_Bucket__false (S : HD sys K mg) : PySem.W.kitOne K (Nm.val K (.ty "tuple")) (Nm.val K (.own "Bucket")) = some false := kit_f (S.fcc 28)
theorem kit_dict__o_Bucket__false (S : HD sys K mg) : PySem.W.kitOne K (Nm.val K (.ty "dict")) (Nm.val K (.own "Bucket")) = some false := kit_f (S.fcc 29)
theorem exm_BadBucket__CreditError__true (S : HD sys K mg) : PySem.W.exmOne K (.ref (ga K "BadBucket")) (.ref (ga K "CreditError")) = some true := exm_f (S.fcc 30)
theorem d_is_integer (S : HD sys K mg) : FunD K "is_integer" "is_integer" (defArgs s_is_integer) (defBody s_is_integer) (defScope s_is_integer) [] [] (Pl.adr K (.fn "is_integer")) (fdAt K (Pl.adr K (.fn "is_integer"))) := S.def_ 0
theorem b_is_integer (S : HD sys K mg) : Binds K (fdAt K (Pl.adr K (.fn "is_integer"))) ["value"] [] := (d_is_integer S).bindsN fun _ _ _ _ _ _ us hl => match us, hl with | [_], _ => rfl
theorem d_is_count (S : HD sys K mg) : FunD K "is_count" "is_count" (defArgs s_is_count) (defBody s_is_count) (defScope s_is_count) [] [] (Pl.adr K (.fn "is_count")) (fdAt K (Pl.adr K (.fn "is_count"))) := S.def_ 1
theorem b_is_count (S : HD sys K mg) : Binds K (fdAt K (Pl.adr K (.fn "is_count"))) ["value"] [] := (d_is_count S).bindsN fun _ _ _ _ _ _ us hl => match us, hl with | [_], _ => rfl
theorem d_is_within (S : HD sys K mg) : FunD K "is_within" "is_within" (defArgs s_is_within) (defBody s_is_within) (defScope s_is_within) [] [] (Pl.adr K (.fn "is_within")) (fdAt K (Pl.adr K (.fn "is_within"))) := S.def_ 2
theorem b_is_within (S : HD sys K mg) : Binds K (fdAt K (Pl.adr K (.fn "is_within"))) ["value", "least", "most"] [] := (d_is_within S).bindsN fun _ _ _ _ _ _ us hl => match us, hl with | [_, _, _], _ => rfl
theorem d_check_count (S : HD sys K mg) : FunD K "check_count" "check_count" (defArgs s_check_count) (defBody s_check_count) (defScope s_check_count) [] [] (Pl.adr K (.fn "check_count")) (fdAt K (Pl.adr K (.fn "check_count"))) := S.def_ 3
theorem b_check_count (S : HD sys K mg) : Binds K (fdAt K (Pl.adr K (.fn "check_count"))) ["value"] [] := (d_check_count S).bindsN fun _ _ _ _ _ _ us hl => match us, hl with | [_], _ => rfl
theorem d_Bucket___init__ (S : HD sys K mg) : FunD K "__init__" "Bucket.__init__" (defArgs s_Bucket___init__) (defBody s_Bucket___init__) (defScope s_Bucket___init__) [] [] (Pl.adr K (.me "Bucket" "__init__")) (fdAt K (Pl.adr K (.me "Bucket" "__init__"))) := S.def_ 4
theorem b_Bucket___init__ (S : HD sys K mg) : Binds K (fdAt K (Pl.adr K (.me "Bucket" "__init__"))) ["self", "burst", "rate", "every"] [] := (d_Bucket___init__ S).bindsN fun _ _ _ _ _ _ us hl => match us, hl with | [_, _, _, _], _ => rfl
theorem d_bound_of (S : HD sys K mg) : FunD K "bound_of" "bound_of" (defArgs s_bound_of) (defBody s_bound_of) (defScope s_bound_of) [] [] (Pl.adr K (.fn "bound_of")) (fdAt K (Pl.adr K (.fn "bound_of"))) := S.def_ 5
theorem b_bound_of (S : HD sys K mg) : Binds K (fdAt K (Pl.adr K (.fn "bound_of"))) ["bucket", "ticks"] [] := (d_bound_of S).bindsN fun _ _ _ _ _ _ us hl => match us, hl with | [_, _], _ => rfl
theorem d_Bucket_earliest (S : HD sys K mg) : FunD K "earliest" "Bucket.earliest" (defArgs s_Bucket_earliest) (defBody s_Bucket_earliest) (defScope s_Bucket_earliest) [] [] (Pl.adr K (.me "Bucket" "earliest")) (fdAt K (Pl.adr K (.me "Bucket" "earliest"))) := S.def_ 6
theorem b_Bucket_earliest (S : HD sys K mg) : Binds K (fdAt K (Pl.adr K (.me "Bucket" "earliest"))) ["self", "bits"] [] := (d_Bucket_earliest S).bindsN fun _ _ _ _ _ _ us hl => match us, hl with | [_, _], _ => rfl
theorem d_check_other (S : HD sys K mg) : FunD K "check_other" "check_other" (defArgs s_check_other) (defBody s_check_other) (defScope s_check_other) [] [] (Pl.adr K (.fn "check_other")) (fdAt K (Pl.adr K (.fn "check_other"))) := S.def_ 7
theorem b_check_other (S : HD sys K mg) : Binds K (fdAt K (Pl.adr K (.fn "check_other"))) ["other"] [] := (d_check_other S).bindsN fun _ _ _ _ _ _ us hl => match us, hl with | [_], _ => rfl
theorem d_Bucket___eq__ (S : HD sys K mg) : FunD K "__eq__" "Bucket.__eq__" (defArgs s_Bucket___eq__) (defBody s_Bucket___eq__) (defScope s_Bucket___eq__) [] [] (Pl.adr K (.me "Bucket" "__eq__")) (fdAt K (Pl.adr K (.me "Bucket" "__eq__"))) := S.def_ 8
theorem b_Bucket___eq__ (S : HD sys K mg) : Binds K (fdAt K (Pl.adr K (.me "Bucket" "__eq__"))) ["self", "other"] [] := (d_Bucket___eq__ S).bindsN fun _ _ _ _ _ _ us hl => match us, hl with | [_, _], _ => rfl
theorem d_is_at_most (S : HD sys K mg) : FunD K "is_at_most" "is_at_most" (defArgs s_is_at_most) (defBody s_is_at_most) (defScope s_is_at_most) [] [] (Pl.adr K (.fn "is_at_most")) (fdAt K (Pl.adr K (.fn "is_at_most"))) := S.def_ 9
theorem b_is_at_most (S : HD sys K mg) : Binds K (fdAt K (Pl.adr K (.fn "is_at_most"))) ["one", "other"] [] := (d_is_at_most S).bindsN fun _ _ _ _ _ _ us hl => match us, hl with | [_, _], _ => rfl
theorem d_Bucket___le__ (S : HD sys K mg) : FunD K "__le__" "Bucket.__le__" (defArgs s_Bucket___le__) (defBody s_Bucket___le__) (defScope s_Bucket___le__) [] [] (Pl.adr K (.me "Bucket" "__le__")) (fdAt K (Pl.adr K (.me "Bucket" "__le__"))) := S.def_ 10
theorem b_Bucket___le__ (S : HD sys K mg) : Binds K (fdAt K (Pl.adr K (.me "Bucket" "__le__"))) ["self", "other"] [] := (d_Bucket___le__ S).bindsN fun _ _ _ _ _ _ us hl => match us, hl with | [_, _], _ => rfl
theorem d_Bucket___ge__ (S : HD sys K mg) : FunD K "__ge__" "Bucket.__ge__" (defArgs s_Bucket___ge__) (defBody s_Bucket___ge__) (defScope s_Bucket___ge__) [] [] (Pl.adr K (.me "Bucket" "__ge__")) (fdAt K (Pl.adr K (.me "Bucket" "__ge__"))) := S.def_ 11
theorem b_Bucket___ge__ (S : HD sys K mg) : Binds K (fdAt K (Pl.adr K (.me "Bucket" "__ge__"))) ["self", "other"] [] := (d_Bucket___ge__ S).bindsN fun _ _ _ _ _ _ us hl => match us, hl with | [_, _], _ => rfl
theorem d_Bucket___lt__ (S : HD sys K mg) : FunD K "__lt__" "Bucket.__lt__" (defArgs s_Bucket___lt__) (defBody s_Bucket___lt__) (defScope s_Bucket___lt__) [] [] (Pl.adr K (.me "Bucket" "__lt__")) (fdAt K (Pl.adr K (.me "Bucket" "__lt__"))) := S.def_ 12
theorem b_Bucket___lt__ (S : HD sys K mg) : Binds K (fdAt K (Pl.adr K (.me "Bucket" "__lt__"))) ["self", "other"] [] := (d_Bucket___lt__ S).bindsN fun _ _ _ _ _ _ us hl => match us, hl with | [_, _], _ => rfl
theorem d_Bucket___gt__ (S : HD sys K mg) : FunD K "__gt__" "Bucket.__gt__" (defArgs s_Bucket___gt__) (defBody s_Bucket___gt__) (defScope s_Bucket___gt__) [] [] (Pl.adr K (.me "Bucket" "__gt__")) (fdAt K (Pl.adr K (.me "Bucket" "__gt__"))) := S.def_ 13
theorem b_Bucket___gt__ (S : HD sys K mg) : Binds K (fdAt K (Pl.adr K (.me "Bucket" "__gt__"))) ["self", "other"] [] := (d_Bucket___gt__ S).bindsN fun _ _ _ _ _ _ us hl => match us, hl with | [_, _], _ => rfl
theorem d_BadBucket___init__ (S : HD sys K mg) : FunD K "__init__" "BadBucket.__init__" (defArgs s_BadBucket___init__) (defBody s_BadBucket___init__) (defScope s_BadBucket___init__) [] [] (Pl.adr K (.me "BadBucket" "__init__")) (fdAt K (Pl.adr K (.me "BadBucket" "__init__"))) := S.def_ 14
theorem b_BadBucket___init__ (S : HD sys K mg) : Binds K (fdAt K (Pl.adr K (.me "BadBucket" "__init__"))) ["self", "part"] [] := (d_BadBucket___init__ S).bindsN fun _ _ _ _ _ _ us hl => match us, hl with | [_, _], _ => rfl
theorem d__law_pen (S : HD sys K mg) : FunD K "_law_pen" "_law_pen" (defArgs s__law_pen) (defBody s__law_pen) (defScope s__law_pen) [] [] (Pl.adr K (.fn "_law_pen")) (fdAt K (Pl.adr K (.fn "_law_pen"))) := S.def_ 15
theorem b__law_pen (S : HD sys K mg) : Binds K (fdAt K (Pl.adr K (.fn "_law_pen"))) ["_law_script"] [] := (d__law_pen S).bindsN fun _ _ _ _ _ _ us hl => match us, hl with | [_], _ => rfl
theorem d__law_draw (S : HD sys K mg) : FunD K "_law_draw" "_law_draw" (defArgs s__law_draw) (defBody s__law_draw) (defScope s__law_draw) [] [] (Pl.adr K (.fn "_law_draw")) (fdAt K (Pl.adr K (.fn "_law_draw"))) := S.def_ 16
theorem b__law_draw (S : HD sys K mg) : Binds K (fdAt K (Pl.adr K (.fn "_law_draw"))) ["_law_pen_here", "_law_many"] [] := (d__law_draw S).bindsN fun _ _ _ _ _ _ us hl => match us, hl with | [_, _], _ => rfl
theorem d__law_pick (S : HD sys K mg) : FunD K "_law_pick" "_law_pick" (defArgs s__law_pick) (defBody s__law_pick) (defScope s__law_pick) [] [] (Pl.adr K (.fn "_law_pick")) (fdAt K (Pl.adr K (.fn "_law_pick"))) := S.def_ 17
theorem b__law_pick (S : HD sys K mg) : Binds K (fdAt K (Pl.adr K (.fn "_law_pick"))) ["_law_pen_here", "_law_some"] [] := (d__law_pick S).bindsN fun _ _ _ _ _ _ us hl => match us, hl with | [_, _], _ => rfl
theorem d__law_is_below (S : HD sys K mg) : FunD K "_law_is_below" "_law_is_below" (defArgs s__law_is_below) (defBody s__law_is_below) (defScope s__law_is_below) [] [] (Pl.adr K (.fn "_law_is_below")) (fdAt K (Pl.adr K (.fn "_law_is_below"))) := S.def_ 18
theorem b__law_is_below (S : HD sys K mg) : Binds K (fdAt K (Pl.adr K (.fn "_law_is_below"))) ["_law_one", "_law_other"] [] := (d__law_is_below S).bindsN fun _ _ _ _ _ _ us hl => match us, hl with | [_, _], _ => rfl
theorem d__law_parts (S : HD sys K mg) : FunD K "_law_parts" "_law_parts" (defArgs s__law_parts) (defBody s__law_parts) (defScope s__law_parts) [] [] (Pl.adr K (.fn "_law_parts")) (fdAt K (Pl.adr K (.fn "_law_parts"))) := S.def_ 19
theorem b__law_parts (S : HD sys K mg) : Binds K (fdAt K (Pl.adr K (.fn "_law_parts"))) ["_law_pen_here"] [] := (d__law_parts S).bindsN fun _ _ _ _ _ _ us hl => match us, hl with | [_], _ => rfl
theorem d__law_near (S : HD sys K mg) : FunD K "_law_near" "_law_near" (defArgs s__law_near) (defBody s__law_near) (defScope s__law_near) [] [] (Pl.adr K (.fn "_law_near")) (fdAt K (Pl.adr K (.fn "_law_near"))) := S.def_ 20
theorem b__law_near (S : HD sys K mg) : Binds K (fdAt K (Pl.adr K (.fn "_law_near"))) ["_law_pen_here", "_law_parts_here"] [] := (d__law_near S).bindsN fun _ _ _ _ _ _ us hl => match us, hl with | [_, _], _ => rfl
theorem d__law_pair_right (S : HD sys K mg) : FunD K "_law_pair_right" "_law_pair_right" (defArgs s__law_pair_right) (defBody s__law_pair_right) (defScope s__law_pair_right) [] [] (Pl.adr K (.fn "_law_pair_right")) (fdAt K (Pl.adr K (.fn "_law_pair_right"))) := S.def_ 21
theorem b__law_pair_right (S : HD sys K mg) : Binds K (fdAt K (Pl.adr K (.fn "_law_pair_right"))) ["_law_one", "_law_other"] [] := (d__law_pair_right S).bindsN fun _ _ _ _ _ _ us hl => match us, hl with | [_, _], _ => rfl
theorem d_law (S : HD sys K mg) : FunD K "law" "law" (defArgs s_law) (defBody s_law) (defScope s_law) [] [] (Pl.adr K (.fn "law")) (fdAt K (Pl.adr K (.fn "law"))) := S.def_ 22
theorem b_law (S : HD sys K mg) : Binds K (fdAt K (Pl.adr K (.fn "law"))) ["_law_script"] [] := (d_law S).bindsN fun _ _ _ _ _ _ us hl => match us, hl with | [_], _ => rfl
theorem d__law_heard (S : HD sys K mg) : FunD K "_law_heard" "_law_heard" (defArgs s__law_heard) (defBody s__law_heard) (defScope s__law_heard) [] [] (Pl.adr K (.fn "_law_heard")) (fdAt K (Pl.adr K (.fn "_law_heard"))) := S.def_ 23
theorem b__law_heard (S : HD sys K mg) : Binds K (fdAt K (Pl.adr K (.fn "_law_heard"))) ["_law_ask"] [] := (d__law_heard S).bindsN fun _ _ _ _ _ _ us hl => match us, hl with | [_], _ => rfl
end
section
variable {K : PySem.W.Frag} {mg : Str → Option Value}
/-! ### checks -/
def spIsInt (K : PySem.W.Frag) : Sp := fun vs H Q _ => ∃ (x : V) (t : Value) (bi bb : Bool), vs = [x] ∧ TyX K H x t ∧ PySem.W.kitOne K t (.type "int") = some bi ∧ PySem.W.kitOne K t (.type "bool") = some bb ∧
  Q (.bl (bi && !bb)) H
theorem isInt_int {K : PySem.W.Frag} {H : Hp} {Q : VK} {E : XK} {i : Int} (k : Q (.bl true) H) : spIsInt K [.int i] H Q E :=
  ⟨_, _, true, false, rfl, .base (.int i), kit_ty (by decide +kernel), kit_ty (by decide +kernel), k⟩
theorem fk_cl_is_integer {P : Program} {w : World} {base : Heap} (S : HD sys K mg) : FnOk P w K mg base CX0 1 (Pl.adr K (Pl.fn "is_integer")) (fdAt K (Pl.adr K (Pl.fn "is_integer"))) ["value"] (spIsInt K) := by
  refine (d_is_integer S).ok sc_is_integer (fun vs H Q E h => ?_) (fun cdv A outer s H vs Q E hr h => ?_)
  · repeat (first | (obtain ⟨rfl, _⟩ := h; rfl) | (obtain ⟨_, h⟩ := h))
  · have nd := sc_is_integer.nd
    refine ⟨_, PSs.nox ((pss_one (ps_ret (pe_and (pe_callB call_isi (by rfl) (n_isinstance S) (by decide +kernel) (pa_cons (pv 0) (pa_cons (pe_bltn (v := .ty "int") (by rfl) (n_int S) (by decide +kernel) rfl) pa_nil))) (pe_one (pe_not (pe_callB call_isi (by rfl) (n_isinstance S) (by decide +kernel) (pa_cons (pv 0) (pa_cons (pe_bltn (v := .ty "bool") (by rfl) (n_bool S) (by decide +kernel) rfl) pa_nil))))))))), ?_⟩
    try dsimp only [cxOf_K]
    obtain ⟨x, t, bi, bb, rfl, ty, k1, k2, k⟩ := h
    refine go_start (σ' := [_]) rfl ?_
    walk_at "go"
    refine go_isi (.ty "int") ty k1 ?_
    walk_at "go"
    cases bi with
    | true =>
      walk_at "go"
      refine go_isi (.ty "bool") ty k2 ?_
      walk_at "go"
      exact k
    | false =>
      walk_at "go"
      exact k
theorem cl_is_integer {P : Program} {w : World} {base : Heap} (S : HD sys K mg) : Cl P w K mg base CX0 1 "is_integer" (spIsInt K) := ⟨_, _, _, (fk_cl_is_integer S), g_is_integer S, (d_is_integer S).kp, b_is_integer S⟩
def spIsCount : Sp := fun vs H Q _ => ∃ i : Int, vs = [.int i] ∧ Q (.bl (decide (0 ≤ i))) H
theorem fk_cl_is_count {P : Program} {w : World} {base : Heap} (S : HD sys K mg) : FnOk P w K mg base CX0 2 (Pl.adr K (Pl.fn "is_count")) (fdAt K (Pl.adr K (Pl.fn "is_count"))) ["value"] (spIsCount) := by
  refine (d_is_count S).ok sc_is_count (fun vs H Q E h => ?_) (fun cdv A outer s H vs Q E hr h => ?_)
  · repeat (first | (obtain ⟨rfl, _⟩ := h; rfl) | (obtain ⟨_, h⟩ := h))
  · have nd := sc_is_count.nd
    refine ⟨_, PSs.nox ((pss_one (ps_ret (pe_and (pe_f (cl_is_integer S) hr (by decide) pass0 (pa_cons (pv 0) pa_nil)) (pe_one (pe_cmpR op_ge (pv 0) pe_int (nomark _))))))), ?_⟩
    try dsimp only [cxOf_K]
    obtain ⟨i, rfl, k⟩ := h
    refine go_start (σ' := [_]) rfl ?_
    walk_at "go"
    refine isInt_int ?_
    walk_at "go"
    exact k
theorem cl_is_count {P : Program} {w : World} {base : Heap} (S : HD sys K mg) : Cl P w K mg base CX0 2 "is_count" (spIsCount) := ⟨_, _, _, (fk_cl_is_count S), g_is_count S, (d_is_count S).kp, b_is_count S⟩
def spWithin : Sp := fun vs H Q _ => ∃ v lo hi : Int, vs = [.int v, .int lo, .int hi] ∧ Q (.bl (decide (lo ≤ v) && decide (v ≤ hi))) H
theorem fk_cl_is_within {P : Program} {w : World} {base : Heap} (S : HD sys K mg) : FnOk P w K mg base CX0 2 (Pl.adr K (Pl.fn "is_within")) (fdAt K (Pl.adr K (Pl.fn "is_within"))) ["value", "least", "most"] (spWithin) := by
  refine (d_is_within S).ok sc_is_within (fun vs H Q E h => ?_) (fun cdv A outer s H vs Q E hr h => ?_)
  · repeat (first | (obtain ⟨rfl, _⟩ := h; rfl) | (obtain ⟨_, h⟩ := h))
  · have nd := sc_is_within.nd
    refine ⟨_, PSs.nox ((pss_one (ps_ret (pe_and (pe_f (cl_is_integer S) hr (by decide) pass0 (pa_cons (pv 0) pa_nil)) (pe_one (pe_chain op_le op_le (pv 1) (pv 0) (pv 2))))))), ?_⟩
    try dsimp only [cxOf_K]
    obtain ⟨v, lo, hi, rfl, k⟩ := h
    refine go_start (σ' := [_, _, _]) rfl ?_
    walk_at "go"
    refine isInt_int ?_
    walk_at "go"
    refine go_dec (fun h1 => ?_) (fun h1 => ?_)
    · walk_at "go"
      rw [decide_eq_true h1, Bool.true_and] at k
      exact k
    · walk_at "go"
      rw [decide_eq_false h1, Bool.false_and] at k
      exact k
theorem cl_is_within {P : Program} {w : World} {base : Heap} (S : HD sys K mg) : Cl P w K mg base CX0 2 "is_within" (spWithin) := ⟨_, _, _, (fk_cl_is_within S), g_is_within S, (d_is_within S).kp, b_is_within S⟩
theorem within_yes {H : Hp} {Q : VK} {E : XK} {v lo hi : Int} (h1 : lo ≤ v) (h2 : v ≤ hi) (k : Q (.bl true) H) : spWithin [.int v, .int lo, .int hi] H Q E :=
  ⟨v, lo, hi, rfl, by rw [decide_eq_true h1, decide_eq_true h2]; exact k⟩
def spCheckCount : Sp := fun vs H Q _ => ∃ i : Int, vs = [.int i] ∧ 0 ≤ i ∧ Q .non H
theorem fk_cl_check_count {P : Program} {w : World} {base : Heap} (S : HD sys K mg) : FnOk P w K mg base CX0 3 (Pl.adr K (Pl.fn "check_count")) (fdAt K (Pl.adr K (Pl.fn "check_count"))) ["value"] (spCheckCount) := by
  refine (d_check_count S).ok sc_check_count (fun vs H Q E h => ?_) (fun cdv A outer s H vs Q E hr h => ?_)
  · repeat (first | (obtain ⟨rfl, _⟩ := h; rfl) | (obtain ⟨_, h⟩ := h))
  · have nd := sc_check_count.nd
    refine ⟨_, PSs.nox ((pss_one (ps_if (pt_not (pt_val (pe_f (cl_is_count S) hr (by decide) pass0 (pa_cons (pv 0) pa_nil)))) (pss_one ps_never) pss_nil))), ?_⟩
    try dsimp only [cxOf_K]
    obtain ⟨i, rfl, hi, k⟩ := h
    refine go_start (σ' := [_]) rfl ?_
    walk_at "go"
    refine ⟨i, rfl, ?_⟩
    rw [decide_eq_true hi]
    walk_at "go"
    exact k
theorem cl_check_count {P : Program} {w : World} {base : Heap} (S : HD sys K mg) : Cl P w K mg base CX0 3 "check_count" (spCheckCount) := ⟨_, _, _, (fk_cl_check_count S), g_check_count S, (d_check_count S).kp, b_check_count S⟩
/-! ### buckets -/
abbrev bkF (b r e : Int) : List (Str × V) := [("burst", .int b), ("rate", .int r), ("every", .int e)]
def BkAt (C : Addr) (H : Hp) (a : Addr) (b r e : Int) : Prop := ∃ dx, H a = some (.ins C dx (bkF b r e))
def Bv (b r e : Int) : Prop := 1 ≤ b ∧ b ≤ 1000000 ∧ 1 ≤ r ∧ r ≤ 1000 ∧ 1 ≤ e ∧ e ≤ 1000
instance (b r e : Int) : Decidable (Bv b r e) := by
  unfold Bv
  infer_instance
def spBkInit (C : Addr) : Sp := fun vs H Q _ => ∃ (p dx : Addr) (b r e : Int), vs = [.ref p, .int b, .int r, .int e] ∧ H p = some (.ins C dx []) ∧ Bv b r e ∧ Q .non (upd H p (.ins C dx (bkF b r e)))
theorem fk_mke_Bucket___init__ {P : Program} {w : World} {base : Heap} (S : HD sys K mg) : FnOk P w K mg base CX0 3 (Pl.adr K (Pl.me "Bucket" "__init__")) (fdAt K (Pl.adr K (Pl.me "Bucket" "__init__"))) ["self", "burst", "rate", "every"] (spBkInit (ga K "Bucket")) := by
  refine (d_Bucket___init__ S).ok sc_Bucket___init__ (fun vs H Q E h => ?_) (fun cdv A outer s H vs Q E hr h => ?_)
  · repeat (first | (obtain ⟨rfl, _⟩ := h; rfl) | (obtain ⟨_, h⟩ := h))
  · have nd := sc_Bucket___init__.nd
    refine ⟨_, PSs.nox ((pss_cons (ps_if (pt_not (pt_val (pe_f (cl_is_within S) hr (by decide) pass0 (pa_cons (pv 1) (pa_cons pe_int (pa_cons (ClX.pe_cval (pe_glob (v := .ref (ga K "Bucket")) rfl (g_Bucket S) rfl)) pa_nil)))))) (pss_one ps_never) pss_nil)
    (pss_cons (ps_if (pt_not (pt_val (pe_f (cl_is_within S) hr (by decide) pass0 (pa_cons (pv 2) (pa_cons pe_int (pa_cons (ClX.pe_cval (pe_glob (v := .ref (ga K "Bucket")) rfl (g_Bucket S) rfl)) pa_nil)))))) (pss_one ps_never) pss_nil)
    (pss_cons (ps_if (pt_not (pt_val (pe_f (cl_is_within S) hr (by decide) pass0 (pa_cons (pv 3) (pa_cons pe_int (pa_cons (ClX.pe_cval (pe_glob (v := .ref (ga K "Bucket")) rfl (g_Bucket S) rfl)) pa_nil)))))) (pss_one ps_never) pss_nil)
    (pss_cons (ps_fld (pv 0) (pv 1) rfl)
    (pss_cons (ps_fld (pv 0) (pv 2) rfl)
    (pss_one (ps_fld (pv 0) (pv 3) rfl)))))))), ?_⟩
    try dsimp only [cxOf_K]
    obtain ⟨p, dx, b, r, e, rfl, hp, ⟨b1, b2, r1, r2, e1, e2⟩, k⟩ := h
    have cCBucket := C_Bucket S
    have naBucketburst := na_Bucket_burst S
    have naBucketrate := na_Bucket_rate S
    have naBucketevery := na_Bucket_every S
    have crBucket := cr_Bucket S
    obtain ⟨_, cvBucketMOST_BURST⟩ := cv_Bucket_MOST_BURST S
    obtain ⟨_, cvBucketMOST_RATE⟩ := cv_Bucket_MOST_RATE S
    obtain ⟨_, cvBucketMOST_EVERY⟩ := cv_Bucket_MOST_EVERY S
    refine go_start (σ' := [_, _, _, _]) rfl ?_
    walk_at "go"
    refine within_yes b1 b2 ?_
    walk_at "go"
    refine within_yes r1 r2 ?_
    walk_at "go"
    refine within_yes e1 e2 ?_
    walk_at "go"
    rw [upd_upd, upd_upd]
    exact k
theorem mke_Bucket {P : Program} {w : World} {base : Heap} (S : HD sys K mg) : Mke P w K mg base CX0 3 "Bucket" (spBkInit (ga K "Bucket")) := ⟨_, _, _, (fk_mke_Bucket___init__ S), mk_Bucket S, g_Bucket S, b_Bucket___init__ S⟩
theorem bk_make {C : Addr} {H : Hp} {Q : VK} {E : XK} {b r e : Int} (v : Bv b r e) (k : ∀ x H', H x = none → Same H H' → BkAt C H' x b r e → Q (.ref x) H') : rMake C (spBkInit C) E [.int b, .int r, .int e] H Q := by
  intro x dx nx nd ne
  refine ⟨x, dx, b, r, e, rfl, upd_same, v, rfl, ?_⟩
  refine k x _ nx (fun a o h => ?_) ⟨dx, upd_same⟩
  rw [upd_ne (ne_of_none h nx), upd_ne (ne_of_none h nx), upd_ne (ne_of_none h nd)]
  exact h
def spBound (C : Addr) : Sp := fun vs H Q _ => ∃ (a : Addr) (b r e t : Int), vs = [.ref a, .int t] ∧ BkAt C H a b r e ∧ Bv b r e ∧ Q (.int (Bk.bnd b r e t)) H
theorem fk_cl_bound_of {P : Program} {w : World} {base : Heap} (S : HD sys K mg) : FnOk P w K mg base CX0 1 (Pl.adr K (Pl.fn "bound_of")) (fdAt K (Pl.adr K (Pl.fn "bound_of"))) ["bucket", "ticks"] (spBound (ga K "Bucket")) := by
  refine (d_bound_of S).ok sc_bound_of (fun vs H Q E h => ?_) (fun cdv A outer s H vs Q E hr h => ?_)
  · repeat (first | (obtain ⟨rfl, _⟩ := h; rfl) | (obtain ⟨_, h⟩ := h))
  · have nd := sc_bound_of.nd
    refine ⟨_, PSs.nox ((pss_one (ps_ret (pe_op op_add (pe_fld (pv 0) rfl) (pe_op op_mul (pe_fld (pv 0) rfl) (pe_op op_fdiv (pv 1) (pe_fld (pv 0) rfl))))))), ?_⟩
    try dsimp only [cxOf_K]
    obtain ⟨a, b, r, e, t, rfl, ⟨dx, ha⟩, ⟨b1, b2, r1, r2, e1, e2⟩, k⟩ := h
    have cCBucket := C_Bucket S
    have naBucketburst := na_Bucket_burst S
    have naBucketrate := na_Bucket_rate S
    have naBucketevery := na_Bucket_every S
    refine go_start (σ' := [_, _]) rfl ?_
    walk_at "go"
    exact k
theorem cl_bound_of {P : Program} {w : World} {base : Heap} (S : HD sys K mg) : Cl P w K mg base CX0 1 "bound_of" (spBound (ga K "Bucket")) := ⟨_, _, _, (fk_cl_bound_of S), g_bound_of S, (d_bound_of S).kp, b_bound_of S⟩
theorem go_max0 {R : V → Prop} {x : Int} (k : R (.int (if 0 < x then x else 0))) : R (.int (if (0 : Int) < x then x else 0)) := k
def spEarliest (C : Addr) : Sp := fun vs H Q _ => ∃ (a : Addr) (b r e n : Int), vs = [.ref a, .int n] ∧ BkAt C H a b r e ∧ Bv b r e ∧ 0 ≤ n ∧ Q (.int (Bk.early b r e n)) H
theorem fk_me_Bucket_earliest {P : Program} {w : World} {base : Heap} (S : HD sys K mg) : FnOk P w K mg base CX0 4 (Pl.adr K (Pl.me "Bucket" "earliest")) (fdAt K (Pl.adr K (Pl.me "Bucket" "earliest"))) ["self", "bits"] (spEarliest (ga K "Bucket")) := by
  refine (d_Bucket_earliest S).ok sc_Bucket_earliest (fun vs H Q E h => ?_) (fun cdv A outer s H vs Q E hr h => ?_)
  · repeat (first | (obtain ⟨rfl, _⟩ := h; rfl) | (obtain ⟨_, h⟩ := h))
  · have nd := sc_Bucket_earliest.nd
    refine ⟨_, PSs.nox ((pss_cons (ps_expr (pe_f (cl_check_count S) hr (by decide) pass0 (pa_cons (pv 1) pa_nil)))
    (pss_one (ps_ret (pe_op op_mul (pe_fld (pv 0) rfl) (pe_callB (call_max2 rfl) (by rfl) (n_max S) (by decide +kernel) (pa_cons pe_int (pa_cons (pe_un un_neg (pe_op op_fdiv (pe_op op_sub (pe_fld (pv 0) rfl) (pv 1)) (pe_fld (pv 0) rfl))) pa_nil)))))))), ?_⟩
    try dsimp only [cxOf_K]
    obtain ⟨a, b, r, e, n, rfl, ⟨dx, ha⟩, ⟨b1, b2, r1, r2, e1, e2⟩, n0, k⟩ := h
    have cCBucket := C_Bucket S
    have naBucketburst := na_Bucket_burst S
    have naBucketrate := na_Bucket_rate S
    have naBucketevery := na_Bucket_every S
    refine go_start (σ' := [_, _]) rfl ?_
    walk_at "go"
    refine ⟨n, rfl, n0, ?_⟩
    walk_at "go"
    exact k
theorem me_Bucket_earliest {P : Program} {w : World} {base : Heap} (S : HD sys K mg) : Me P w K mg base CX0 4 (ga K "Bucket") "earliest" (spEarliest (ga K "Bucket")) := ⟨_, _, _, (fk_me_Bucket_earliest S), C_Bucket S, mt_Bucket_earliest S, b_Bucket_earliest S⟩
def spCheckOther (C : Addr) : Sp := fun vs H Q _ => ∃ (a : Addr) (b r e : Int), vs = [.ref a] ∧ BkAt C H a b r e ∧ Q .non H
theorem fk_cl_check_other {P : Program} {w : World} {base : Heap} (S : HD sys K mg) : FnOk P w K mg base CX0 1 (Pl.adr K (Pl.fn "check_other")) (fdAt K (Pl.adr K (Pl.fn "check_other"))) ["other"] (spCheckOther (ga K "Bucket")) := by
  refine (d_check_other S).ok sc_check_other (fun vs H Q E h => ?_) (fun cdv A outer s H vs Q E hr h => ?_)
  · repeat (first | (obtain ⟨rfl, _⟩ := h; rfl) | (obtain ⟨_, h⟩ := h))
  · have nd := sc_check_other.nd
    refine ⟨_, PSs.nox ((pss_one (ps_if (pt_not (pt_val (pe_callB call_isi (by rfl) (n_isinstance S) (by decide +kernel) (pa_cons (pv 0) (pa_cons (pe_glob (v := .ref (ga K "Bucket")) rfl (g_Bucket S) rfl) pa_nil))))) (pss_one ps_never) pss_nil))), ?_⟩
    try dsimp only [cxOf_K]
    obtain ⟨a, b, r, e, rfl, ⟨dx, ha⟩, k⟩ := h
    refine go_start (σ' := [_]) rfl ?_
    walk_at "go"
    refine go_isi (.own _) (tyIns (in_Bucket S) ha) (kit_o_Bucket__o_Bucket__true S) ?_
    walk_at "go"
    exact k
theorem cl_check_other {P : Program} {w : World} {base : Heap} (S : HD sys K mg) : Cl P w K mg base CX0 1 "check_other" (spCheckOther (ga K "Bucket")) := ⟨_, _, _, (fk_cl_check_other S), g_check_other S, (d_check_other S).kp, b_check_other S⟩
def spBkEq (C : Addr) : Sp := fun vs H Q _ => ∃ (a c : Addr) (b1 r1 e1 b2 r2 e2 : Int), vs = [.ref a, .ref c] ∧ BkAt C H a b1 r1 e1 ∧ BkAt C H c b2 r2 e2 ∧ Q (.bl (decide (b1 = b2 ∧ r1 = r2 ∧ e1 = e2))) H
theorem fk_op_Bucket___eq__ {P : Program} {w : World} {base : Heap} (S : HD sys K mg) : FnOk P w K mg base CX0 1 (Pl.adr K (Pl.me "Bucket" "__eq__")) (fdAt K (Pl.adr K (Pl.me "Bucket" "__eq__"))) ["self", "other"] (spBkEq (ga K "Bucket")) := by
  refine (d_Bucket___eq__ S).ok sc_Bucket___eq__ (fun vs H Q E h => ?_) (fun cdv A outer s H vs Q E hr h => ?_)
  · repeat (first | (obtain ⟨rfl, _⟩ := h; rfl) | (obtain ⟨_, h⟩ := h))
  · have nd := sc_Bucket___eq__.nd
    refine ⟨_, PSs.nox ((pss_one (ps_ret (pe_and (pe_callB call_isi (by rfl) (n_isinstance S) (by decide +kernel) (pa_cons (pv 1) (pa_cons (pe_glob (v := .ref (ga K "Bucket")) rfl (g_Bucket S) rfl) pa_nil))) (pe_and (pe_cmpR op_eq (pe_fld (pv 0) rfl) (pe_fld (pv 1) rfl) (nomark _)) (pe_and (pe_cmpR op_eq (pe_fld (pv 0) rfl) (pe_fld (pv 1) rfl) (nomark _)) (pe_one (pe_cmpR op_eq (pe_fld (pv 0) rfl) (pe_fld (pv 1) rfl) (nomark _))))))))), ?_⟩
    try dsimp only [cxOf_K]
    obtain ⟨a, c, b1, r1, e1, b2, r2, e2, rfl, ⟨dx, ha⟩, ⟨dy, hc⟩, k⟩ := h
    have cCBucket := C_Bucket S
    have naBucketburst := na_Bucket_burst S
    have naBucketrate := na_Bucket_rate S
    have naBucketevery := na_Bucket_every S
    refine go_start (σ' := [_, _]) rfl ?_
    walk_at "go"
    refine go_isi (.own _) (tyIns (in_Bucket S) hc) (kit_o_Bucket__o_Bucket__true S) ?_
    walk_at "go"
    refine go_dec (fun h1 => ?_) (fun h1 => ?_)
    · walk_at "go"
      refine go_dec (fun h2 => ?_) (fun h2 => ?_)
      · walk_at "go"
        refine bl_of (R := fun v => Q v H) ?_ k
        simp_all
      · walk_at "go"
        refine bl_of (R := fun v => Q v H) ?_ k
        simp_all
    · walk_at "go"
      refine bl_of (R := fun v => Q v H) ?_ k
      simp_all
theorem op_Bucket___eq__ {P : Program} {w : World} {base : Heap} (S : HD sys K mg) : Op P w K mg base CX0 1 (ga K "Bucket") "__eq__" (spBkEq (ga K "Bucket")) := ⟨_, _, _, (fk_op_Bucket___eq__ S), (opf_Bucket___eq__ S).1, (opf_Bucket___eq__ S).2, b_Bucket___eq__ S⟩
def spAtMost (C : Addr) : Sp := fun vs H Q _ => ∃ (a c : Addr) (b1 r1 e1 b2 r2 e2 : Int), vs = [.ref a, .ref c] ∧ BkAt C H a b1 r1 e1 ∧ BkAt C H c b2 r2 e2 ∧ Bv b1 r1 e1 ∧ Bv b2 r2 e2 ∧
  ∀ H', Same H H' → Q (.bl (Bk.atMost b1 r1 e1 b2 r2 e2)) H'
theorem fk_cl_is_at_most {P : Program} {w : World} {base : Heap} (S : HD sys K mg) : FnOk P w K mg base CX0 2 (Pl.adr K (Pl.fn "is_at_most")) (fdAt K (Pl.adr K (Pl.fn "is_at_most"))) ["one", "other"] (spAtMost (ga K "Bucket")) := by
  refine (d_is_at_most S).ok sc_is_at_most (fun vs H Q E h => ?_) (fun cdv A outer s H vs Q E hr h => ?_)
  · repeat (first | (obtain ⟨rfl, _⟩ := h; rfl) | (obtain ⟨_, h⟩ := h))
  · have nd := sc_is_at_most.nd
    refine ⟨_, PSs.nox ((pss_cons (ps_if (pt_cmpR op_gt (pe_op op_mul (pe_fld (pv 0) rfl) (pe_fld (pv 1) rfl)) (pe_op op_mul (pe_fld (pv 1) rfl) (pe_fld (pv 0) rfl)) (nomark _)) (pss_one (ps_ret pe_bl)) pss_nil)
    (pss_cons (ps_setLc (i := 2) (own := [("times", 3)]) (g := gName 3) (by rfl) nd rfl rfl (sw_true rfl rfl rfl (by decide +kernel)) (pi_range1 (by rfl) (n_range S) (pa_cons (pe_fld (pv 1) rfl) pa_nil)) (blkOk_by (own := [("times", 3)]) (N := ["one", "other", "moments", "times", "moment"]) (sc := defScope s_is_at_most) (by decide +kernel)) (fun _ _ _ _ _ => (pg_name (i := 3) nd rfl (Or.inl rfl))) (fun _ _ _ _ _ => pts_nil) (fun _ _ _ _ _ => (pe_op op_mul (pe_fldk (K' := K) rfl (pv 0) rfl) (pv 3))))
    (pss_one (ps_ret (pe_callB (cr_all rfl) (by rfl) (n_all S) (by decide +kernel) (pa_cons (pe_lc (own := [("moment", 4)]) (g := gName 4) rfl nd (pi_list (pv 2)) (blkOk_by (own := [("moment", 4)]) (N := ["one", "other", "moments", "times", "moment"]) (sc := defScope s_is_at_most) (by decide +kernel)) (fun _ _ _ _ _ => (pg_name (i := 4) nd rfl (Or.inl rfl))) (fun _ _ _ _ _ => pts_nil) (fun _ _ _ _ _ => (pe_cmpR op_le (pe_f (cl_bound_of S) hr (by decide) pass0 (pa_cons (pv 0) (pa_cons (pv 4) pa_nil))) (pe_f (cl_bound_of S) hr (by decide) pass0 (pa_cons (pv 1) (pa_cons (pv 4) pa_nil))) (nomark _)))) pa_nil))))))), ?_⟩
    try dsimp only [cxOf_K]
    obtain ⟨a, c, b1, r1, e1, b2, r2, e2, rfl, ⟨dx, ha⟩, ⟨dy, hc⟩, ⟨b11, b12, r11, r12, e11, e12⟩, ⟨b21, b22, r21, r22, e21, e22⟩, k⟩ := h
    have cCBucket := C_Bucket S
    have naBucketburst := na_Bucket_burst S
    have naBucketrate := na_Bucket_rate S
    have naBucketevery := na_Bucket_every S
    refine go_start (σ' := [_, _, none, none, none]) rfl ?_
    walk_at "go"
    refine go_dec (fun h1 => ?_) (fun h1 => ?_)
    · walk_at "go"
      refine bl_of (R := fun v => Q v H) ?_ (k H (Same.refl H))
      unfold Bk.atMost
      rw [decide_eq_false (by omega), Bool.false_and]
    · walk_at "go"
      refine lcRange (fun i => .int (e1 * i)) (by omega) (fun _ => rfl) (fun i H' Q' hi s k' => ?_) (fun M H1 nM s1 hM => ?_)
      · have ha' := s _ _ ha
        dsimp only [List.map, wipe, List.set]
        walk_at "go"
        exact k' H' (Same.refl H')
      · walk_at "go"
        refine lcList (fun v => match v with | .int t => .bl (decide (Bk.bnd b1 r1 e1 t ≤ Bk.bnd b2 r2 e2 t)) | _ => .non) ?_ (SqL.of hM) (fun _ => rfl) (fun x H' Q' hx s k' => ?_) (fun B H2 nB s2 hB => ?_)
        · rw [List.length_map, List.length_range]
          omega
        · obtain ⟨i, hi, rfl⟩ := List.mem_map.mp hx
          have ha' := s _ _ (s1 _ _ ha)
          have hc' := s _ _ (s1 _ _ hc)
          dsimp only [List.map, wipe, List.set]
          walk_at "go"
          refine ⟨a, b1, r1, e1, _, rfl, ⟨dx, ha'⟩, ⟨b11, b12, r11, r12, e11, e12⟩, ?_⟩
          walk_at "go"
          refine ⟨c, b2, r2, e2, _, rfl, ⟨dy, hc'⟩, ⟨b21, b22, r21, r22, e21, e22⟩, ?_⟩
          walk_at "go"
          exact k' H' (Same.refl H')
        · walk_at "go"
          refine go_all (bs := (List.range e2.toNat).map fun i : Nat => decide (Bk.bnd b1 r1 e1 (e1 * (i : Int)) ≤ Bk.bnd b2 r2 e2 (e1 * (i : Int)))) (SqL.of ?_) ?_
          · rw [hB, List.map_map, List.map_map]
            rfl
          · refine bl_of (R := fun v => Q v H2) ?_ (k H2 (s1.trans s2))
            unfold Bk.atMost
            rw [decide_eq_true (by omega), Bool.true_and, List.all_map]
            rfl
theorem cl_is_at_most {P : Program} {w : World} {base : Heap} (S : HD sys K mg) : Cl P w K mg base CX0 2 "is_at_most" (spAtMost (ga K "Bucket")) := ⟨_, _, _, (fk_cl_is_at_most S), g_is_at_most S, (d_is_at_most S).kp, b_is_at_most S⟩
def spLe (C : Addr) : Sp := fun vs H Q _ => ∃ (a c : Addr) (b1 r1 e1 b2 r2 e2 : Int), vs = [.ref a, .ref c] ∧ BkAt C H a b1 r1 e1 ∧ BkAt C H c b2 r2 e2 ∧ Bv b1 r1 e1 ∧ Bv b2 r2 e2 ∧
  ∀ H', Same H H' → Q (.bl (Bk.atMost b1 r1 e1 b2 r2 e2)) H'
theorem fk_op_Bucket___le__ {P : Program} {w : World} {base : Heap} (S : HD sys K mg) : FnOk P w K mg base CX0 3 (Pl.adr K (Pl.me "Bucket" "__le__")) (fdAt K (Pl.adr K (Pl.me "Bucket" "__le__"))) ["self", "other"] (spLe (ga K "Bucket")) := by
  refine (d_Bucket___le__ S).ok sc_Bucket___le__ (fun vs H Q E h => ?_) (fun cdv A outer s H vs Q E hr h => ?_)
  · repeat (first | (obtain ⟨rfl, _⟩ := h; rfl) | (obtain ⟨_, h⟩ := h))
  · have nd := sc_Bucket___le__.nd
    refine ⟨_, PSs.nox ((pss_cons (ps_expr (pe_f (cl_check_other S) hr (by decide) pass0 (pa_cons (pv 1) pa_nil)))
    (pss_one (ps_ret (pe_f (cl_is_at_most S) hr (by decide) pass0 (pa_cons (pv 0) (pa_cons (pv 1) pa_nil))))))), ?_⟩
    try dsimp only [cxOf_K]
    obtain ⟨a, c, b1, r1, e1, b2, r2, e2, rfl, ha, hc, v1, v2, k⟩ := h
    refine go_start (σ' := [_, _]) rfl ?_
    walk_at "go"
    refine ⟨c, b2, r2, e2, rfl, hc, ?_⟩
    walk_at "go"
    refine ⟨a, c, b1, r1, e1, b2, r2, e2, rfl, ha, hc, v1, v2, fun H' s => ?_⟩
    exact k H' s
theorem op_Bucket___le__ {P : Program} {w : World} {base : Heap} (S : HD sys K mg) : Op P w K mg base CX0 3 (ga K "Bucket") "__le__" (spLe (ga K "Bucket")) := ⟨_, _, _, (fk_op_Bucket___le__ S), (opf_Bucket___le__ S).1, (opf_Bucket___le__ S).2, b_Bucket___le__ S⟩
def spGe (C : Addr) : Sp := fun vs H Q _ => ∃ (a c : Addr) (b1 r1 e1 b2 r2 e2 : Int), vs = [.ref a, .ref c] ∧ BkAt C H a b1 r1 e1 ∧ BkAt C H c b2 r2 e2 ∧ Bv b1 r1 e1 ∧ Bv b2 r2 e2 ∧
  ∀ H', Same H H' → Q (.bl (Bk.atMost b2 r2 e2 b1 r1 e1)) H'
theorem fk_op_Bucket___ge__ {P : Program} {w : World} {base : Heap} (S : HD sys K mg) : FnOk P w K mg base CX0 3 (Pl.adr K (Pl.me "Bucket" "__ge__")) (fdAt K (Pl.adr K (Pl.me "Bucket" "__ge__"))) ["self", "other"] (spGe (ga K "Bucket")) := by
  refine (d_Bucket___ge__ S).ok sc_Bucket___ge__ (fun vs H Q E h => ?_) (fun cdv A outer s H vs Q E hr h => ?_)
  · repeat (first | (obtain ⟨rfl, _⟩ := h; rfl) | (obtain ⟨_, h⟩ := h))
  · have nd := sc_Bucket___ge__.nd
    refine ⟨_, PSs.nox ((pss_cons (ps_expr (pe_f (cl_check_other S) hr (by decide) pass0 (pa_cons (pv 1) pa_nil)))
    (pss_one (ps_ret (pe_f (cl_is_at_most S) hr (by decide) pass0 (pa_cons (pv 1) (pa_cons (pv 0) pa_nil))))))), ?_⟩
    try dsimp only [cxOf_K]
    obtain ⟨a, c, b1, r1, e1, b2, r2, e2, rfl, ha, hc, v1, v2, k⟩ := h
    refine go_start (σ' := [_, _]) rfl ?_
    walk_at "go"
    refine ⟨c, b2, r2, e2, rfl, hc, ?_⟩
    walk_at "go"
    refine ⟨c, a, b2, r2, e2, b1, r1, e1, rfl, hc, ha, v2, v1, fun H' s => ?_⟩
    exact k H' s
theorem op_Bucket___ge__ {P : Program} {w : World} {base : Heap} (S : HD sys K mg) : Op P w K mg base CX0 3 (ga K "Bucket") "__ge__" (spGe (ga K "Bucket")) := ⟨_, _, _, (fk_op_Bucket___ge__ S), (opf_Bucket___ge__ S).1, (opf_Bucket___ge__ S).2, b_Bucket___ge__ S⟩
def spLt (C : Addr) : Sp := fun vs H Q _ => ∃ (a c : Addr) (b1 r1 e1 b2 r2 e2 : Int), vs = [.ref a, .ref c] ∧ BkAt C H a b1 r1 e1 ∧ BkAt C H c b2 r2 e2 ∧ Bv b1 r1 e1 ∧ Bv b2 r2 e2 ∧
  ∀ H', Same H H' → Q (.bl (Bk.atMost b1 r1 e1 b2 r2 e2 && !decide (b1 = b2 ∧ r1 = r2 ∧ e1 = e2))) H'
theorem fk_op_Bucket___lt__ {P : Program} {w : World} {base : Heap} (S : HD sys K mg) : FnOk P w K mg base CX0 3 (Pl.adr K (Pl.me "Bucket" "__lt__")) (fdAt K (Pl.adr K (Pl.me "Bucket" "__lt__"))) ["self", "other"] (spLt (ga K "Bucket")) := by
  refine (d_Bucket___lt__ S).ok sc_Bucket___lt__ (fun vs H Q E h => ?_) (fun cdv A outer s H vs Q E hr h => ?_)
  · repeat (first | (obtain ⟨rfl, _⟩ := h; rfl) | (obtain ⟨_, h⟩ := h))
  · have nd := sc_Bucket___lt__.nd
    refine ⟨_, PSs.nox ((pss_cons (ps_expr (pe_f (cl_check_other S) hr (by decide) pass0 (pa_cons (pv 1) pa_nil)))
    (pss_one (ps_ret (pe_and (pe_f (cl_is_at_most S) hr (by decide) pass0 (pa_cons (pv 0) (pa_cons (pv 1) pa_nil))) (pe_one (pe_not (pe_cmpR (op_own (op_Bucket___eq__ S) (fun _ _ => rfl) hr (by decide) pass0) (pv 0) (pv 1) (nomark _))))))))), ?_⟩
    try dsimp only [cxOf_K]
    obtain ⟨a, c, b1, r1, e1, b2, r2, e2, rfl, ha, hc, v1, v2, k⟩ := h
    refine go_start (σ' := [_, _]) rfl ?_
    walk_at "go"
    refine ⟨c, b2, r2, e2, rfl, hc, ?_⟩
    walk_at "go"
    refine ⟨a, c, b1, r1, e1, b2, r2, e2, rfl, ha, hc, v1, v2, fun H' s => ?_⟩
    walk_at "go"
    refine go_b (fun q => ?_) (fun q => ?_)
    · have ha' := s _ _ ha.choose_spec
      have hc' := s _ _ hc.choose_spec
      walk_at "go"
      refine go_own ha' (tyIns (in_Bucket S) hc') (fr_Bucket_o_Bucket S) ?_
      refine ⟨a, c, b1, r1, e1, b2, r2, e2, rfl, ⟨_, ha'⟩, ⟨_, hc'⟩, ?_⟩
      walk_at "go"
      refine bl_of (R := fun v => Q v H') ?_ (k H' s)
      rw [q, Bool.true_and]
    · refine bl_of (R := fun v => Q v H') ?_ (k H' s)
      rw [q, Bool.false_and]
theorem op_Bucket___lt__ {P : Program} {w : World} {base : Heap} (S : HD sys K mg) : Op P w K mg base CX0 3 (ga K "Bucket") "__lt__" (spLt (ga K "Bucket")) := ⟨_, _, _, (fk_op_Bucket___lt__ S), (opf_Bucket___lt__ S).1, (opf_Bucket___lt__ S).2, b_Bucket___lt__ S⟩
def spGt (C : Addr) : Sp := fun vs H Q _ => ∃ (a c : Addr) (b1 r1 e1 b2 r2 e2 : Int), vs = [.ref a, .ref c] ∧ BkAt C H a b1 r1 e1 ∧ BkAt C H c b2 r2 e2 ∧ Bv b1 r1 e1 ∧ Bv b2 r2 e2 ∧
  ∀ H', Same H H' → Q (.bl (Bk.atMost b2 r2 e2 b1 r1 e1 && !decide (b1 = b2 ∧ r1 = r2 ∧ e1 = e2))) H'
theorem fk_op_Bucket___gt__ {P : Program} {w : World} {base : Heap} (S : HD sys K mg) : FnOk P w K mg base CX0 3 (Pl.adr K (Pl.me "Bucket" "__gt__")) (fdAt K (Pl.adr K (Pl.me "Bucket" "__gt__"))) ["self", "other"] (spGt (ga K "Bucket")) := by
  refine (d_Bucket___gt__ S).ok sc_Bucket___gt__ (fun vs H Q E h => ?_) (fun cdv A outer s H vs Q E hr h => ?_)
  · repeat (first | (obtain ⟨rfl, _⟩ := h; rfl) | (obtain ⟨_, h⟩ := h))
  · have nd := sc_Bucket___gt__.nd
    refine ⟨_, PSs.nox ((pss_cons (ps_expr (pe_f (cl_check_other S) hr (by decide) pass0 (pa_cons (pv 1) pa_nil)))
    (pss_one (ps_ret (pe_and (pe_f (cl_is_at_most S) hr (by decide) pass0 (pa_cons (pv 1) (pa_cons (pv 0) pa_nil))) (pe_one (pe_not (pe_cmpR (op_own (op_Bucket___eq__ S) (fun _ _ => rfl) hr (by decide) pass0) (pv 0) (pv 1) (nomark _))))))))), ?_⟩
    try dsimp only [cxOf_K]
    obtain ⟨a, c, b1, r1, e1, b2, r2, e2, rfl, ha, hc, v1, v2, k⟩ := h
    refine go_start (σ' := [_, _]) rfl ?_
    walk_at "go"
    refine ⟨c, b2, r2, e2, rfl, hc, ?_⟩
    walk_at "go"
    refine ⟨c, a, b2, r2, e2, b1, r1, e1, rfl, hc, ha, v2, v1, fun H' s => ?_⟩
    walk_at "go"
    refine go_b (fun q => ?_) (fun q => ?_)
    · have ha' := s _ _ ha.choose_spec
      have hc' := s _ _ hc.choose_spec
      walk_at "go"
      refine go_own ha' (tyIns (in_Bucket S) hc') (fr_Bucket_o_Bucket S) ?_
      refine ⟨a, c, b1, r1, e1, b2, r2, e2, rfl, ⟨_, ha'⟩, ⟨_, hc'⟩, ?_⟩
      walk_at "go"
      refine bl_of (R := fun v => Q v H') ?_ (k H' s)
      rw [q, Bool.true_and]
    · refine bl_of (R := fun v => Q v H') ?_ (k H' s)
      rw [q, Bool.false_and]
theorem op_Bucket___gt__ {P : Program} {w : World} {base : Heap} (S : HD sys K mg) : Op P w K mg base CX0 3 (ga K "Bucket") "__gt__" (spGt (ga K "Bucket")) := ⟨_, _, _, (fk_op_Bucket___gt__ S), (opf_Bucket___gt__ S).1, (opf_Bucket___gt__ S).2, b_Bucket___gt__ S⟩
theorem fk_ex_BadBucket___init__ {P : Program} {w : World} {base : Heap} (S : HD sys K mg) : FnOk P w K mg base CX0 1 (Pl.adr K (Pl.me "BadBucket" "__init__")) (fdAt K (Pl.adr K (Pl.me "BadBucket" "__init__"))) ["self", "part"] (spEx1 (ga K "BadBucket") "part") := by
  refine (d_BadBucket___init__ S).ok sc_BadBucket___init__ (fun vs H Q E h => ?_) (fun cdv A outer s H vs Q E hr h => ?_)
  · repeat (first | (obtain ⟨rfl, _⟩ := h; rfl) | (obtain ⟨_, h⟩ := h))
  · have nd := sc_BadBucket___init__.nd
    refine ⟨_, PSs.nox ((pss_one (ps_ost (pv 0) (pv 1)))), ?_⟩
    try dsimp only [cxOf_K]
    obtain ⟨a, v, rfl, ha, k⟩ := h
    refine go_start (σ' := [_, _]) rfl ?_
    walk_at "go"
    refine go_ost1 (exo_BadBucket S).oex (na_BadBucket_part S) ha fun dx n ne => ?_
    walk_at "go"
    exact k dx n ne
theorem ex_BadBucket {P : Program} {w : World} {base : Heap} (S : HD sys K mg) : Ex P w K mg base 1 "BadBucket" (spEx1 (ga K "BadBucket") "part") := ⟨_, _, (fk_ex_BadBucket___init__ S), exo_BadBucket S, g_BadBucket S, b_BadBucket___init__ S⟩
def spNoBucket (C : Addr) (K : PySem.W.Frag) : Sp := fun vs H Q E => ∃ (v : V) (t : Value), vs = [v] ∧ TyX K H v t ∧ PySem.W.kitOne K t (.ref C) = some false ∧ Er1 K "BadBucket" "part" (.str "other") H E
theorem fk_cl_check_other_x {P : Program} {w : World} {base : Heap} (S : HD sys K mg) : FnOk P w K mg base (L2.CX P w) 3 (Pl.adr K (Pl.fn "check_other")) (fdAt K (Pl.adr K (Pl.fn "check_other"))) ["other"] (spNoBucket (ga K "Bucket") K) := by
  refine (d_check_other S).ok sc_check_other (fun vs H Q E h => ?_) (fun cdv A outer s H vs Q E hr h => ?_)
  · repeat (first | (obtain ⟨rfl, _⟩ := h; rfl) | (obtain ⟨_, h⟩ := h))
  · have nd := sc_check_other.nd
    refine ⟨_, ((pss_one (ps_if (pt_not (pt_val (pe_callB call_isi (by rfl) (n_isinstance S) (by decide +kernel) (pa_cons (pv 0) (pa_cons (pe_glob (v := .ref (ga K "Bucket")) rfl (g_Bucket S) rfl) pa_nil))))) (pss_one (ps_raise rfl (takes_of rfl rfl rfl rfl) (pmk_ex (ex_BadBucket S) hr (by decide) (pa_cons pe_str pa_nil)))) pss_nil))), ?_⟩
    try dsimp only [cxOf_K]
    obtain ⟨v, t, rfl, ty, kt, k⟩ := h
    refine go_start (σ' := [_]) rfl ?_
    walk_at "go"
    refine go_isi (.own _) ty kt ?_
    walk_at "go"
    exact go_ex1 k.at
theorem cl_check_other_x {P : Program} {w : World} {base : Heap} (S : HD sys K mg) : Cl P w K mg base (L2.CX P w) 3 "check_other" (spNoBucket (ga K "Bucket") K) := ⟨_, _, _, (fk_cl_check_other_x S), g_check_other S, (d_check_other S).kp, b_check_other S⟩
def spOddOp (C : Addr) (K : PySem.W.Frag) : Sp := fun vs H Q E => ∃ (a : Addr) (v : V) (t : Value), vs = [.ref a, v] ∧ TyX K H v t ∧ PySem.W.kitOne K t (.ref C) = some false ∧ Er1 K "BadBucket" "part" (.str "other") H E
theorem fk_op_Bucket___le___x {P : Program} {w : World} {base : Heap} (S : HD sys K mg) : FnOk P w K mg base (L2.CX P w) 4 (Pl.adr K (Pl.me "Bucket" "__le__")) (fdAt K (Pl.adr K (Pl.me "Bucket" "__le__"))) ["self", "other"] (spOddOp (ga K "Bucket") K) := by
  refine (d_Bucket___le__ S).ok sc_Bucket___le__ (fun vs H Q E h => ?_) (fun cdv A outer s H vs Q E hr h => ?_)
  · repeat (first | (obtain ⟨rfl, _⟩ := h; rfl) | (obtain ⟨_, h⟩ := h))
  · have nd := sc_Bucket___le__.nd
    refine ⟨_, ((pss_cons (ps_expr (pe_f (cl_check_other_x S) hr (by decide) (passes_call (takes_of rfl rfl rfl rfl) (fun _ _ _ _ h => h)) (pa_cons (pv 1) pa_nil)))
    (pss_one (ps_ret (pe_f (cl_is_at_most S) hr (by decide) pass0 (pa_cons (pv 0) (pa_cons (pv 1) pa_nil))))))), ?_⟩
    try dsimp only [cxOf_K]
    obtain ⟨a, v, t, rfl, ty, kt, k⟩ := h
    refine go_start (σ' := [_, _]) rfl ?_
    walk_at "go"
    exact ⟨v, t, rfl, ty, kt, k⟩
theorem op_Bucket___le___x {P : Program} {w : World} {base : Heap} (S : HD sys K mg) : Op P w K mg base (L2.CX P w) 4 (ga K "Bucket") "__le__" (spOddOp (ga K "Bucket") K) := ⟨_, _, _, (fk_op_Bucket___le___x S), (opf_Bucket___le__ S).1, (opf_Bucket___le__ S).2, b_Bucket___le__ S⟩
theorem fk_op_Bucket___lt___x {P : Program} {w : World} {base : Heap} (S : HD sys K mg) : FnOk P w K mg base (L2.CX P w) 4 (Pl.adr K (Pl.me "Bucket" "__lt__")) (fdAt K (Pl.adr K (Pl.me "Bucket" "__lt__"))) ["self", "other"] (spOddOp (ga K "Bucket") K) := by
  refine (d_Bucket___lt__ S).ok sc_Bucket___lt__ (fun vs H Q E h => ?_) (fun cdv A outer s H vs Q E hr h => ?_)
  · repeat (first | (obtain ⟨rfl, _⟩ := h; rfl) | (obtain ⟨_, h⟩ := h))
  · have nd := sc_Bucket___lt__.nd
    refine ⟨_, ((pss_cons (ps_expr (pe_f (cl_check_other_x S) hr (by decide) (passes_call (takes_of rfl rfl rfl rfl) (fun _ _ _ _ h => h)) (pa_cons (pv 1) pa_nil)))
    (pss_one (ps_ret (pe_and (pe_f (cl_is_at_most S) hr (by decide) pass0 (pa_cons (pv 0) (pa_cons (pv 1) pa_nil))) (pe_one (pe_not (pe_cmpR (op_own (op_Bucket___eq__ S) (fun _ _ => rfl) hr (by decide) pass0) (pv 0) (pv 1) (nomark _))))))))), ?_⟩
    try dsimp only [cxOf_K]
    obtain ⟨a, v, t, rfl, ty, kt, k⟩ := h
    refine go_start (σ' := [_, _]) rfl ?_
    walk_at "go"
    exact ⟨v, t, rfl, ty, kt, k⟩
theorem op_Bucket___lt___x {P : Program} {w : World} {base : Heap} (S : HD sys K mg) : Op P w K mg base (L2.CX P w) 4 (ga K "Bucket") "__lt__" (spOddOp (ga K "Bucket") K) := ⟨_, _, _, (fk_op_Bucket___lt___x S), (opf_Bucket___lt__ S).1, (opf_Bucket___lt__ S).2, b_Bucket___lt__ S⟩
theorem fk_op_Bucket___ge___x {P : Program} {w : World} {base : Heap} (S : HD sys K mg) : FnOk P w K mg base (L2.CX P w) 4 (Pl.adr K (Pl.me "Bucket" "__ge__")) (fdAt K (Pl.adr K (Pl.me "Bucket" "__ge__"))) ["self", "other"] (spOddOp (ga K "Bucket") K) := by
  refine (d_Bucket___ge__ S).ok sc_Bucket___ge__ (fun vs H Q E h => ?_) (fun cdv A outer s H vs Q E hr h => ?_)
  · repeat (first | (obtain ⟨rfl, _⟩ := h; rfl) | (obtain ⟨_, h⟩ := h))
  · have nd := sc_Bucket___ge__.nd
    refine ⟨_, ((pss_cons (ps_expr (pe_f (cl_check_other_x S) hr (by decide) (passes_call (takes_of rfl rfl rfl rfl) (fun _ _ _ _ h => h)) (pa_cons (pv 1) pa_nil)))
    (pss_one (ps_ret (pe_f (cl_is_at_most S) hr (by decide) pass0 (pa_cons (pv 1) (pa_cons (pv 0) pa_nil))))))), ?_⟩
    try dsimp only [cxOf_K]
    obtain ⟨a, v, t, rfl, ty, kt, k⟩ := h
    refine go_start (σ' := [_, _]) rfl ?_
    walk_at "go"
    exact ⟨v, t, rfl, ty, kt, k⟩
theorem op_Bucket___ge___x {P : Program} {w : World} {base : Heap} (S : HD sys K mg) : Op P w K mg base (L2.CX P w) 4 (ga K "Bucket") "__ge__" (spOddOp (ga K "Bucket") K) := ⟨_, _, _, (fk_op_Bucket___ge___x S), (opf_Bucket___ge__ S).1, (opf_Bucket___ge__ S).2, b_Bucket___ge__ S⟩
theorem fk_op_Bucket___gt___x {P : Program} {w : World} {base : Heap} (S : HD sys K mg) : FnOk P w K mg base (L2.CX P w) 4 (Pl.adr K (Pl.me "Bucket" "__gt__")) (fdAt K (Pl.adr K (Pl.me "Bucket" "__gt__"))) ["self", "other"] (spOddOp (ga K "Bucket") K) := by
  refine (d_Bucket___gt__ S).ok sc_Bucket___gt__ (fun vs H Q E h => ?_) (fun cdv A outer s H vs Q E hr h => ?_)
  · repeat (first | (obtain ⟨rfl, _⟩ := h; rfl) | (obtain ⟨_, h⟩ := h))
  · have nd := sc_Bucket___gt__.nd
    refine ⟨_, ((pss_cons (ps_expr (pe_f (cl_check_other_x S) hr (by decide) (passes_call (takes_of rfl rfl rfl rfl) (fun _ _ _ _ h => h)) (pa_cons (pv 1) pa_nil)))
    (pss_one (ps_ret (pe_and (pe_f (cl_is_at_most S) hr (by decide) pass0 (pa_cons (pv 1) (pa_cons (pv 0) pa_nil))) (pe_one (pe_not (pe_cmpR (op_own (op_Bucket___eq__ S) (fun _ _ => rfl) hr (by decide) pass0) (pv 0) (pv 1) (nomark _))))))))), ?_⟩
    try dsimp only [cxOf_K]
    obtain ⟨a, v, t, rfl, ty, kt, k⟩ := h
    refine go_start (σ' := [_, _]) rfl ?_
    walk_at "go"
    exact ⟨v, t, rfl, ty, kt, k⟩
theorem op_Bucket___gt___x {P : Program} {w : World} {base : Heap} (S : HD sys K mg) : Op P w K mg base (L2.CX P w) 4 (ga K "Bucket") "__gt__" (spOddOp (ga K "Bucket") K) := ⟨_, _, _, (fk_op_Bucket___gt___x S), (opf_Bucket___gt__ S).1, (opf_Bucket___gt__ S).2, b_Bucket___gt__ S⟩
def spOddEq (C : Addr) (K : PySem.W.Frag) : Sp := fun vs H Q E => ∃ (a : Addr) (v : V) (t : Value), vs = [.ref a, v] ∧ TyX K H v t ∧ PySem.W.kitOne K t (.ref C) = some false ∧ Q (.bl false) H
theorem fk_op_Bucket___eq___x {P : Program} {w : World} {base : Heap} (S : HD sys K mg) : FnOk P w K mg base CX0 1 (Pl.adr K (Pl.me "Bucket" "__eq__")) (fdAt K (Pl.adr K (Pl.me "Bucket" "__eq__"))) ["self", "other"] (spOddEq (ga K "Bucket") K) := by
  refine (d_Bucket___eq__ S).ok sc_Bucket___eq__ (fun vs H Q E h => ?_) (fun cdv A outer s H vs Q E hr h => ?_)
  · repeat (first | (obtain ⟨rfl, _⟩ := h; rfl) | (obtain ⟨_, h⟩ := h))
  · have nd := sc_Bucket___eq__.nd
    refine ⟨_, PSs.nox ((pss_one (ps_ret (pe_and (pe_callB call_isi (by rfl) (n_isinstance S) (by decide +kernel) (pa_cons (pv 1) (pa_cons (pe_glob (v := .ref (ga K "Bucket")) rfl (g_Bucket S) rfl) pa_nil))) (pe_and (pe_cmpR op_eq (pe_fld (pv 0) rfl) (pe_fld (pv 1) rfl) (nomark _)) (pe_and (pe_cmpR op_eq (pe_fld (pv 0) rfl) (pe_fld (pv 1) rfl) (nomark _)) (pe_one (pe_cmpR op_eq (pe_fld (pv 0) rfl) (pe_fld (pv 1) rfl) (nomark _))))))))), ?_⟩
    try dsimp only [cxOf_K]
    obtain ⟨a, v, t, rfl, ty, kt, k⟩ := h
    refine go_start (σ' := [_, _]) rfl ?_
    walk_at "go"
    refine go_isi (.own _) ty kt ?_
    walk_at "go"
    exact k
theorem op_Bucket___eq___x {P : Program} {w : World} {base : Heap} (S : HD sys K mg) : Op P w K mg base CX0 1 (ga K "Bucket") "__eq__" (spOddEq (ga K "Bucket") K) := ⟨_, _, _, (fk_op_Bucket___eq___x S), (opf_Bucket___eq__ S).1, (opf_Bucket___eq__ S).2, b_Bucket___eq__ S⟩
theorem fk_cl__law_pen {P : Program} {w : World} {base : Heap} (S : HD sys K mg) : FnOk P w K mg base CX0 1 (Pl.adr K (Pl.fn "_law_pen")) (fdAt K (Pl.adr K (Pl.fn "_law_pen"))) ["_law_script"] (spPen K) := by
  refine (d__law_pen S).ok sc__law_pen (fun vs H Q E h => ?_) (fun cdv A outer s H vs Q E hr h => ?_)
  · repeat (first | (obtain ⟨rfl, _⟩ := h; rfl) | (obtain ⟨_, h⟩ := h))
  · have nd := sc__law_pen.nd
    refine ⟨_, PSs.nox ((pss_one (ps_ret (pe_lst (pa_cons (pe_callTy call_list_of (by rfl) (n_list S) (by decide +kernel) (pa_cons (pe_slice sl_list (pv 0) po_none (po_some pe_int)) pa_nil)) (pa_cons pe_int (pa_cons pe_int pa_nil))))))), ?_⟩
    try dsimp only [cxOf_K]
    obtain ⟨a, ns, rfl, hS, k⟩ := h
    refine go_start (σ' := [_]) rfl ?_
    walk_at "go"
    intro l nl
    walk_at "go"
    intro c nc
    walk_at "go"
    intro p np
    have e : (cutV (ns.map V.int) none (some 63)) = (ns.take 63).map V.int := (cut_upto (ns.map V.int) 63).trans List.map_take.symm
    rw [e] at nc np ⊢
    refine k _ _ ⟨c, ns.take 63, 0, 0, upd_same, SqL.of (upd_keep np upd_same), ?_, Int.le_refl _, Int.le_refl _, ne_of_none upd_same np⟩ ?_ ?_
    · rw [List.length_take]
      omega
    · exact ((Same.new nl).trans (Same.new nc)).trans (Same.new np)
    · exact ((Same.new nl).trans (Same.new nc)).free np
theorem cl__law_pen {P : Program} {w : World} {base : Heap} (S : HD sys K mg) : Cl P w K mg base CX0 1 "_law_pen" (spPen K) := ⟨_, _, _, (fk_cl__law_pen S), g__law_pen S, (d__law_pen S).kp, b__law_pen S⟩
theorem fk_cl__law_draw {P : Program} {w : World} {base : Heap} (S : HD sys K mg) : FnOk P w K mg base CX0 1 (Pl.adr K (Pl.fn "_law_draw")) (fdAt K (Pl.adr K (Pl.fn "_law_draw"))) ["_law_pen_here", "_law_many"] (spDraw K) := by
  refine (d__law_draw S).ok sc__law_draw (fun vs H Q E h => ?_) (fun cdv A outer s H vs Q E hr h => ?_)
  · repeat (first | (obtain ⟨rfl, _⟩ := h; rfl) | (obtain ⟨_, h⟩ := h))
  · have nd := sc__law_draw.nd
    refine ⟨_, PSs.nox ((pss_cons (ps_if (pt_cmpR op_gt (pe_ix ix_list (pv 0) pe_int (fun _ _ => rfl)) pe_int (nomark _)) (pss_cons (ps_set (i := 2) nd rfl (Or.inl rfl) (pe_op op_mod (pe_callTy call_int1 (by rfl) (n_int S) (by decide +kernel) (pa_cons (pe_ix ix_list (pv 0) pe_int (fun _ _ => rfl)) pa_nil)) (pv 1)))
    (pss_cons (ps_asg (pe_op op_fdivW (pe_callTy call_int1 (by rfl) (n_int S) (by decide +kernel) (pa_cons (pe_ix ix_list (pv 0) pe_int (fun _ _ => rfl)) pa_nil)) (pv 1)) (pg_sub (pv 0) pe_int set_list))
    (pss_one (ps_ret (pv 2))))) pss_nil)
    (pss_cons (ps_set (i := 3) nd rfl (Or.inl rfl) (pe_ix ix_list (pv 0) pe_int (fun _ _ => rfl)))
    (pss_cons (ps_asg (pe_op op_add (pv 3) pe_int) (pg_sub (pv 0) pe_int set_list))
    (pss_cons (ps_set (i := 4) nd rfl (Or.inl rfl) (pe_op op_add (pe_op op_mul pe_int (pv 3)) pe_int))
    (pss_cons (ps_if (pt_cmpR (op_neD hr.units) (pe_ix ix_list (pv 0) pe_int (fun _ _ => rfl)) (pe_lst pa_nil) (nomark _)) (pss_one (ps_set (i := 4) nd rfl (Or.inl rfl) (pe_ix ix_list (pe_ix ix_list (pv 0) pe_int (fun _ _ => rfl)) (pe_op op_mod (pe_callTy call_int1 (by rfl) (n_int S) (by decide +kernel) (pa_cons (pv 3) pa_nil)) (pe_callB call_len_seq (by rfl) (n_len S) (by decide +kernel) (pa_cons (pe_ix ix_list (pv 0) pe_int (fun _ _ => rfl)) pa_nil))) (fun _ _ => rfl)))) pss_nil)
    (pss_cons (ps_if (PW.pt (pw_and (pt_cmpR op_lt (pv 3) (pe_callB call_len_seq (by rfl) (n_len S) (by decide +kernel) (pa_cons (pe_ix ix_list (pv 0) pe_int (fun _ _ => rfl)) pa_nil)) (nomark _)) (pw_and1 (pt_cmpR op_ge (pe_callB call_abs (by rfl) (n_abs S) (by decide +kernel) (pa_cons (pv 4) pa_nil)) (pe_op op_pow pe_int pe_int) (nomark _))))) (pss_cons (ps_set (i := 5) nd rfl (Or.inl rfl) (pe_op op_add (pe_op op_mul pe_int (pe_op op_sub (pe_callB call_abs (by rfl) (n_abs S) (by decide +kernel) (pa_cons (pv 4) pa_nil)) (pe_op op_pow pe_int pe_int))) (pe_callTy call_int1 (by rfl) (n_int S) (by decide +kernel) (pa_cons (pe_cmpR op_lt (pv 4) pe_int (nomark _)) pa_nil))))
    (pss_cons (ps_asg (pe_op op_fdivW (pe_callTy call_int1 (by rfl) (n_int S) (by decide +kernel) (pa_cons (pv 5) pa_nil)) (pv 1)) (pg_sub (pv 0) pe_int set_list))
    (pss_one (ps_ret (pe_op op_mod (pe_callTy call_int1 (by rfl) (n_int S) (by decide +kernel) (pa_cons (pv 5) pa_nil)) (pv 1)))))) pss_nil)
    (pss_cons (ps_set (i := 6) nd rfl (Or.inl rfl) (pe_op op_mod (pe_callTy call_int1 (by rfl) (n_int S) (by decide +kernel) (pa_cons (pe_op op_pow (pe_op op_add (pe_op op_add (pe_op op_mod (pe_callTy call_int1 (by rfl) (n_int S) (by decide +kernel) (pa_cons (pv 4) pa_nil)) pe_int) (pe_op op_mul pe_int (pv 3))) pe_int) pe_int) pa_nil)) pe_int))
    (pss_cons (ps_set (i := 6) nd rfl (Or.inl rfl) (pe_op op_mod (pe_callTy call_int1 (by rfl) (n_int S) (by decide +kernel) (pa_cons (pe_op op_pow (pe_op op_add (pe_op op_add (pe_op op_mul (pv 6) (pe_op op_add (pe_op op_mul pe_int (pv 3)) pe_int)) (pe_op op_mul (pe_op op_mul pe_int (pv 3)) (pv 3))) pe_int) pe_int) pa_nil)) pe_int))
    (pss_one (ps_ret (pe_op op_mod (pe_callTy call_int1 (by rfl) (n_int S) (by decide +kernel) (pa_cons (pe_op op_fdiv (pv 6) pe_int) pa_nil)) (pv 1))))))))))))), ?_⟩
    try dsimp only [cxOf_K]
    obtain ⟨p, m, n, rfl, hm, hm2, ⟨c, ns, b, g, hp, hc, hn, b0, b1, cp⟩, hn2, k⟩ := h
    refine go_start (σ' := [_, _, none, none, none, none, none]) rfl ?_
    walk_at "go"
    refine go_dec (fun hg => ?_) (fun hg => ?_)
    · walk_at "go"
      refine k _ _ (Int.emod_nonneg _ (by omega)) (Int.emod_lt_of_pos _ hm) ⟨c, ns, b, g / m, upd_same, Kp.put.seqL hc cp, hn, b0, by omega, cp⟩ Kp.put
    · walk_at "go"
      intro q nq
      have hp1 : upd (upd H p (.lst [.ref c, .int (b + 1), .int g])) q (.lst []) p = some (.lst [.ref c, .int (b + 1), .int g]) := upd_keep nq upd_same
      have k1 : Kp p H (upd (upd H p (.lst [.ref c, .int (b + 1), .int g])) q (.lst [])) := Kp.put.trans (Kp.new nq)
      have hc1 := k1.seqL hc cp
      have en : upd (upd H p (.lst [.ref c, .int (b + 1), .int g])) q (.lst []) q = some (.lst (([] : List Int).map V.int)) := upd_same
      refine go_neInts hc1 (SqL.of en) ?_
      generalize upd (upd H p (.lst [.ref c, .int (b + 1), .int g])) q (.lst []) = H1 at hp1 k1 hc1 ⊢
      walk_at "go"
      refine go_ndec (fun hns => ?_) (fun hns => ?_)
      · have hl : 0 < (ns.map V.int).length := by
          rw [List.length_map]
          exact List.length_pos_iff.mpr hns
        walk_at "go"
        obtain ⟨v, e, hv⟩ := atI_mod (xs := ns.map V.int) (Int.emod_nonneg b (by omega)) (Int.emod_lt_of_pos b (by omega))
        obtain ⟨z, hz, rfl⟩ := List.mem_map.mp hv
        refine go_ixl hc1 e ?_
        walk_at "go"
        refine go_dec (fun h1 => ?_) (fun h1 => ?_)
        · walk_at "go"
          refine go_dec (fun h2 => ?_) (fun h2 => ?_)
          · walk_at "go"
            refine k _ _ (Int.emod_nonneg _ (by omega)) (Int.emod_lt_of_pos _ hm) ⟨c, ns, b + 1, _, upd_same, Kp.put.seqL hc1 cp, hn, by omega, by omega, cp⟩ (k1.trans Kp.put)
          · walk_at "go"
            refine go_i ⟨by decide, by decide, mixOk (Int.emod_nonneg _ (by decide)) (Int.lt_of_lt_of_le (Int.emod_lt_of_pos _ (by decide)) (by decide)) b0 (by omega) (by decide) (by decide) (by decide) (by decide) (by decide) (by decide)⟩ ?_
            walk_at "go"
            exact k _ _ (Int.emod_nonneg _ (by omega)) (Int.emod_lt_of_pos _ hm) ⟨c, ns, b + 1, g, hp1, hc1, hn, by omega, by omega, cp⟩ k1
        · walk_at "go"
          refine go_i ⟨by decide, by decide, mixOk (Int.emod_nonneg _ (by decide)) (Int.lt_of_lt_of_le (Int.emod_lt_of_pos _ (by decide)) (by decide)) b0 (by omega) (by decide) (by decide) (by decide) (by decide) (by decide) (by decide)⟩ ?_
          walk_at "go"
          exact k _ _ (Int.emod_nonneg _ (by omega)) (Int.emod_lt_of_pos _ hm) ⟨c, ns, b + 1, g, hp1, hc1, hn, by omega, by omega, cp⟩ k1
      · generalize 39119 * b + 823 = z
        walk_at "go"
        refine go_dec (fun h1 => ?_) (fun h1 => ?_)
        · walk_at "go"
          refine go_dec (fun h2 => ?_) (fun h2 => ?_)
          · walk_at "go"
            refine k _ _ (Int.emod_nonneg _ (by omega)) (Int.emod_lt_of_pos _ hm) ⟨c, ns, b + 1, _, upd_same, Kp.put.seqL hc1 cp, hn, by omega, by omega, cp⟩ (k1.trans Kp.put)
          · walk_at "go"
            refine go_i ⟨by decide, by decide, mixOk (Int.emod_nonneg _ (by decide)) (Int.lt_of_lt_of_le (Int.emod_lt_of_pos _ (by decide)) (by decide)) b0 (by omega) (by decide) (by decide) (by decide) (by decide) (by decide) (by decide)⟩ ?_
            walk_at "go"
            exact k _ _ (Int.emod_nonneg _ (by omega)) (Int.emod_lt_of_pos _ hm) ⟨c, ns, b + 1, g, hp1, hc1, hn, by omega, by omega, cp⟩ k1
        · walk_at "go"
          refine go_i ⟨by decide, by decide, mixOk (Int.emod_nonneg _ (by decide)) (Int.lt_of_lt_of_le (Int.emod_lt_of_pos _ (by decide)) (by decide)) b0 (by omega) (by decide) (by decide) (by decide) (by decide) (by decide) (by decide)⟩ ?_
          walk_at "go"
          exact k _ _ (Int.emod_nonneg _ (by omega)) (Int.emod_lt_of_pos _ hm) ⟨c, ns, b + 1, g, hp1, hc1, hn, by omega, by omega, cp⟩ k1
theorem cl__law_draw {P : Program} {w : World} {base : Heap} (S : HD sys K mg) : Cl P w K mg base CX0 1 "_law_draw" (spDraw K) := ⟨_, _, _, (fk_cl__law_draw S), g__law_draw S, (d__law_draw S).kp, b__law_draw S⟩
theorem fk_cl__law_pick {P : Program} {w : World} {base : Heap} (S : HD sys K mg) : FnOk P w K mg base CX0 2 (Pl.adr K (Pl.fn "_law_pick")) (fdAt K (Pl.adr K (Pl.fn "_law_pick"))) ["_law_pen_here", "_law_some"] (spPick K) := by
  refine (d__law_pick S).ok sc__law_pick (fun vs H Q E h => ?_) (fun cdv A outer s H vs Q E hr h => ?_)
  · repeat (first | (obtain ⟨rfl, _⟩ := h; rfl) | (obtain ⟨_, h⟩ := h))
  · have nd := sc__law_pick.nd
    refine ⟨_, PSs.nox ((pss_one (ps_ret (pe_ix ix_seq (pv 1) (pe_f (cl__law_draw S) hr (by decide) pass0 (pa_cons (pv 0) (pa_cons (pe_callB call_len_seq (by rfl) (n_len S) (by decide +kernel) (pa_cons (pv 1) pa_nil)) pa_nil))) (fun _ _ => rfl))))), ?_⟩
    try dsimp only [cxOf_K]
    obtain ⟨p, a, xs, n, rfl, ha, hx, hl, ap, hP, hn, k⟩ := h
    refine go_start (σ' := [_, _]) rfl ?_
    walk_at "go"
    have hx' : 0 < xs.length := List.length_pos_iff.mpr hx
    refine ⟨p, xs.length, n, rfl, by omega, by omega, hP, hn, fun i H' h0 h1 hP' hk => ?_⟩
    obtain ⟨v, e, hv⟩ := atI_mod h0 h1
    have fin := k v H' hv hP' hk
    rcases ha with ha | ha
    · exact .inl ⟨a, xs, i, v, rfl, rfl, hk.seqL ha ap, e, fin⟩
    · exact .inr (.inl ⟨a, xs, i, v, rfl, rfl, hk.seqT ha ap, e, fin⟩)
theorem cl__law_pick {P : Program} {w : World} {base : Heap} (S : HD sys K mg) : Cl P w K mg base CX0 2 "_law_pick" (spPick K) := ⟨_, _, _, (fk_cl__law_pick S), g__law_pick S, (d__law_pick S).kp, b__law_pick S⟩
def L3 (H : Hp) (a : Addr) (b r e : Int) : Prop := H a = some (.lst [.int b, .int r, .int e])
def spBelow : Sp := fun vs H Q _ => ∃ (a c : Addr) (b1 r1 e1 b2 r2 e2 : Int), vs = [.ref a, .ref c] ∧ L3 H a b1 r1 e1 ∧ L3 H c b2 r2 e2 ∧ Bv b1 r1 e1 ∧ Bv b2 r2 e2 ∧ Q (.bl (Bk.below b1 r1 e1 b2 r2 e2)) H
theorem fk_cl__law_is_below {P : Program} {w : World} {base : Heap} (S : HD sys K mg) : FnOk P w K mg base CX0 1 (Pl.adr K (Pl.fn "_law_is_below")) (fdAt K (Pl.adr K (Pl.fn "_law_is_below"))) ["_law_one", "_law_other"] (spBelow) := by
  refine (d__law_is_below S).ok sc__law_is_below (fun vs H Q E h => ?_) (fun cdv A outer s H vs Q E hr h => ?_)
  · repeat (first | (obtain ⟨rfl, _⟩ := h; rfl) | (obtain ⟨_, h⟩ := h))
  · have nd := sc__law_is_below.nd
    refine ⟨_, PSs.nox ((pss_cons (ps_if (pt_cmpR op_gt (pe_op op_mul (pe_ix ix_list (pv 0) pe_int (fun _ _ => rfl)) (pe_ix ix_list (pv 1) pe_int (fun _ _ => rfl))) (pe_op op_mul (pe_ix ix_list (pv 1) pe_int (fun _ _ => rfl)) (pe_ix ix_list (pv 0) pe_int (fun _ _ => rfl))) (nomark _)) (pss_one (ps_ret pe_bl)) pss_nil)
    (pss_cons (ps_for PassesOwn.never rfl (pi_range1 (by rfl) (n_range S) (pa_cons (pe_op op_mul (pe_ix ix_list (pv 0) pe_int (fun _ _ => rfl)) (pe_ix ix_list (pv 1) pe_int (fun _ _ => rfl))) pa_nil)) (pg_name (i := 2) nd rfl (Or.inl rfl))
      (pss_one (ps_if (pt_cmpR op_gt (pe_op op_add (pe_ix ix_list (pv 0) pe_int (fun _ _ => rfl)) (pe_op op_mul (pe_ix ix_list (pv 0) pe_int (fun _ _ => rfl)) (pe_op op_fdiv (pe_callTy call_int1 (by rfl) (n_int S) (by decide +kernel) (pa_cons (pv 2) pa_nil)) (pe_ix ix_list (pv 0) pe_int (fun _ _ => rfl))))) (pe_op op_add (pe_ix ix_list (pv 1) pe_int (fun _ _ => rfl)) (pe_op op_mul (pe_ix ix_list (pv 1) pe_int (fun _ _ => rfl)) (pe_op op_fdiv (pe_callTy call_int1 (by rfl) (n_int S) (by decide +kernel) (pa_cons (pv 2) pa_nil)) (pe_ix ix_list (pv 1) pe_int (fun _ _ => rfl))))) (nomark _)) (pss_one (ps_ret pe_bl)) pss_nil)))
    (pss_one (ps_ret pe_bl))))), ?_⟩
    try dsimp only [cxOf_K]
    obtain ⟨a, c, b1, r1, e1, b2, r2, e2, rfl, ha, hc, ⟨b11, b12, r11, r12, e11, e12⟩, ⟨b21, b22, r21, r22, e21, e22⟩, k⟩ := h
    unfold L3 at ha hc
    refine go_start (σ' := [_, _, none]) rfl ?_
    walk_at "go"
    refine go_dec (fun h1 => ?_) (fun h1 => ?_)
    · walk_at "go"
      refine bl_of (R := fun v => Q v H) ?_ k
      unfold Bk.below
      rw [decide_eq_false (by omega), Bool.false_and]
    · have m1 : e1 * e2 ≤ 1000 * 1000 := Int.mul_le_mul e12 e22 (by omega) (by omega)
      have m0 : 0 ≤ e1 * e2 := Int.mul_nonneg (by omega) (by omega)
      walk_at "go"
      refine forRange (fun i σ' H' => H' = H ∧ (∃ v, σ' = [some (.ref a), some (.ref c), v]) ∧ ∀ t : Nat, t < i → Bk.bnd b1 r1 e1 t ≤ Bk.bnd b2 r2 e2 t) ⟨rfl, ⟨_, rfl⟩, fun t ht => absurd ht (Nat.not_lt_zero t)⟩ ?_ ?_
      · rintro i σ' H' hi ⟨rfl, ⟨v, rfl⟩, hb⟩
        rw [Int.zero_add]
        walk_at "go"
        refine go_dec (fun h2 => ?_) (fun h2 => ?_)
        · walk_at "go"
          refine bl_of (R := fun v => Q v H') ?_ k
          unfold Bk.below
          rw [decide_eq_true (by omega), Bool.true_and]
          refine Eq.symm (Bool.eq_false_iff.mpr fun z => ?_)
          have := of_decide_eq_true (Bk.all_range.mp z i hi)
          unfold Bk.bnd at this
          omega
        · walk_at "go"
          refine ⟨rfl, ⟨_, rfl⟩, fun t ht => ?_⟩
          rcases Nat.lt_succ_iff_lt_or_eq.mp ht with q | rfl
          · exact hb t q
          · unfold Bk.bnd
            omega
      · rintro σ' H' ⟨rfl, ⟨v, rfl⟩, hb⟩
        walk_at "go"
        refine bl_of (R := fun v => Q v H') ?_ k
        unfold Bk.below
        rw [decide_eq_true (by omega), Bool.true_and]
        exact Eq.symm (Bk.all_range.mpr fun i hi => decide_eq_true (hb i hi))
theorem cl__law_is_below {P : Program} {w : World} {base : Heap} (S : HD sys K mg) : Cl P w K mg base CX0 1 "_law_is_below" (spBelow) := ⟨_, _, _, (fk_cl__law_is_below S), g__law_is_below S, (d__law_is_below S).kp, b__law_is_below S⟩
def spParts (K : PySem.W.Frag) : Sp := fun vs H Q _ => ∃ (p : Addr) (n : Nat), vs = [.ref p] ∧ Pen K H p n ∧ n < 900000 ∧
  ∀ a H' b r e, L3 H' a b r e → H a = none → Pen K H' p (n + 4) → Kp p H H' → 1 ≤ b → b ≤ 90 → 1 ≤ r → r ≤ 12 → 1 ≤ e → e ≤ 12 → Q (.ref a) H'
theorem fk_cl__law_parts {P : Program} {w : World} {base : Heap} (S : HD sys K mg) : FnOk P w K mg base CX0 3 (Pl.adr K (Pl.fn "_law_parts")) (fdAt K (Pl.adr K (Pl.fn "_law_parts"))) ["_law_pen_here"] (spParts K) := by
  refine (d__law_parts S).ok sc__law_parts (fun vs H Q E h => ?_) (fun cdv A outer s H vs Q E hr h => ?_)
  · repeat (first | (obtain ⟨rfl, _⟩ := h; rfl) | (obtain ⟨_, h⟩ := h))
  · have nd := sc__law_parts.nd
    refine ⟨_, PSs.nox ((pss_one (ps_ret (pe_lst (pa_cons (pe_op op_add pe_int (pe_f (cl__law_draw S) hr (by decide) pass0 (pa_cons (pv 0) (pa_cons (pe_f (cl__law_pick S) hr (by decide) pass0 (pa_cons (pv 0) (pa_cons (pe_lst (pa_cons pe_int (pa_cons pe_int (pa_cons pe_int pa_nil)))) pa_nil))) pa_nil)))) (pa_cons (pe_op op_add pe_int (pe_f (cl__law_draw S) hr (by decide) pass0 (pa_cons (pv 0) (pa_cons pe_int pa_nil)))) (pa_cons (pe_op op_add pe_int (pe_f (cl__law_draw S) hr (by decide) pass0 (pa_cons (pv 0) (pa_cons pe_int pa_nil)))) pa_nil))))))), ?_⟩
    try dsimp only [cxOf_K]
    obtain ⟨p, n, rfl, hP, hn, k⟩ := h
    refine go_start (σ' := [_]) rfl ?_
    walk_at "go"
    intro q nq
    walk_at "go"
    refine pick_new hP (by omega) nq (by intro z; cases z) (by decide) fun v H2 hv P2 k2 _ => ?_
    obtain ⟨m, rfl, m0, m1⟩ : ∃ m : Int, v = .int m ∧ 4 ≤ m ∧ m ≤ 90 := by
      rcases List.mem_cons.mp hv with rfl | hv
      · exact ⟨4, rfl, by decide, by decide⟩
      · rcases List.mem_cons.mp hv with rfl | hv
        · exact ⟨20, rfl, by decide, by decide⟩
        · rcases List.mem_cons.mp hv with rfl | hv
          · exact ⟨90, rfl, by decide, by decide⟩
          · cases hv
    walk_at "go"
    refine draw_go P2 (by omega) (by omega) (by omega) fun b H3 b0 b1 P3 k3 => ?_
    walk_at "go"
    refine draw_go P3 (by omega) (by omega) (by omega) fun r H4 r0 r1 P4 k4 => ?_
    walk_at "go"
    refine draw_go P4 (by omega) (by omega) (by omega) fun e H5 e0 e1 P5 k5 => ?_
    walk_at "go"
    intro a na
    have kk := ((k2.trans k3).trans k4).trans k5
    exact k a _ _ _ _ upd_same (kk.free P5 na) (P5.new na) (kk.trans (Kp.new na)) (by omega) (by omega) (by omega) (by omega) (by omega) (by omega)
theorem cl__law_parts {P : Program} {w : World} {base : Heap} (S : HD sys K mg) : Cl P w K mg base CX0 3 "_law_parts" (spParts K) := ⟨_, _, _, (fk_cl__law_parts S), g__law_parts S, (d__law_parts S).kp, b__law_parts S⟩
def nudge (x s : Int) (k z : Int) : Int := if 1 < x + s * (if decide (V.int k = V.int z) = true then 1 else 0) then x + s * (if decide (V.int k = V.int z) = true then 1 else 0) else 1
theorem nudge_ok {x s k z : Int} (h : s = -1 ∨ s = 1 ∨ s = 0 ∨ s = 2) (h1 : 1 ≤ x) : 1 ≤ nudge x s k z ∧ nudge x s k z ≤ x + 2 := by
  unfold nudge
  cases decide (V.int k = V.int z)
  · rw [if_neg Bool.false_ne_true]
    split <;> omega
  · rw [if_pos rfl]
    split <;> omega
def spNear (K : PySem.W.Frag) : Sp := fun vs H Q _ => ∃ (p a : Addr) (b r e : Int) (n : Nat), vs = [.ref p, .ref a] ∧ L3 H a b r e ∧ (1 ≤ b ∧ b ≤ 90) ∧ (1 ≤ r ∧ r ≤ 12) ∧ (1 ≤ e ∧ e ≤ 12) ∧ Pen K H p n ∧ n < 800000 ∧
  ∀ c H' b' r' e', L3 H' c b' r' e' → H c = none → Pen K H' p (n + 6) → Kp p H H' → Bv b' r' e' → Q (.ref c) H'
theorem fk_cl__law_near {P : Program} {w : World} {base : Heap} (S : HD sys K mg) : FnOk P w K mg base CX0 4 (Pl.adr K (Pl.fn "_law_near")) (fdAt K (Pl.adr K (Pl.fn "_law_near"))) ["_law_pen_here", "_law_parts_here"] (spNear K) := by
  refine (d__law_near S).ok sc__law_near (fun vs H Q E h => ?_) (fun cdv A outer s H vs Q E hr h => ?_)
  · repeat (first | (obtain ⟨rfl, _⟩ := h; rfl) | (obtain ⟨_, h⟩ := h))
  · have nd := sc__law_near.nd
    refine ⟨_, PSs.nox ((pss_cons (ps_par (i := 2) (j := 3) (by rfl) nd rfl rfl (by decide) rfl rfl (pa_cons (pe_f (cl__law_draw S) hr (by decide) pass0 (pa_cons (pv 0) (pa_cons pe_int pa_nil))) (pa_cons (pe_f (cl__law_pick S) hr (by decide) pass0 (pa_cons (pv 0) (pa_cons (pe_lst (pa_cons pe_int (pa_cons pe_int (pa_cons pe_int pa_nil)))) pa_nil))) pa_nil)) (by rfl))
    (pss_cons (ps_if (pt_cmpR op_eq (pv 2) pe_int (nomark _)) (pss_one (ps_ret (pe_f (cl__law_parts S) hr (by decide) pass0 (pa_cons (pv 0) pa_nil)))) pss_nil)
    (pss_cons (ps_if (pt_cmpR op_eq (pv 2) pe_int (nomark _)) (pss_one (ps_ret (pe_lst (pa_cons (pe_ix ix_list (pv 1) pe_int (fun _ _ => rfl)) (pa_cons (pe_op op_mul (pe_ix ix_list (pv 1) pe_int (fun _ _ => rfl)) (pv 3)) (pa_cons (pe_op op_mul (pe_ix ix_list (pv 1) pe_int (fun _ _ => rfl)) (pv 3)) pa_nil)))))) pss_nil)
    (pss_cons (ps_if (pt_cmpR op_eq (pv 2) pe_int (nomark _)) (pss_one (ps_ret (pe_lst (pa_cons (pe_op op_add (pe_ix ix_list (pv 1) pe_int (fun _ _ => rfl)) (pe_op op_mul (pe_ix ix_list (pv 1) pe_int (fun _ _ => rfl)) (pe_op op_sub (pv 3) pe_int))) (pa_cons (pe_op op_mul (pe_ix ix_list (pv 1) pe_int (fun _ _ => rfl)) (pv 3)) (pa_cons (pe_op op_mul (pe_ix ix_list (pv 1) pe_int (fun _ _ => rfl)) (pv 3)) pa_nil)))))) pss_nil)
    (pss_cons (ps_asg (pe_tup (pa_cons (pe_f (cl__law_draw S) hr (by decide) pass0 (pa_cons (pv 0) (pa_cons pe_int pa_nil))) (pa_cons (pe_f (cl__law_pick S) hr (by decide) pass0 (pa_cons (pv 0) (pa_cons (pe_lst (pa_cons (pe_un un_neg pe_int) (pa_cons pe_int (pa_cons pe_int (pa_cons pe_int pa_nil))))) pa_nil))) pa_nil))) (pg_tup (by rfl) (pgs_cons (pg_name (i := 4) nd rfl (Or.inr rfl)) (pgs_cons (pg_name (i := 5) nd rfl (Or.inr rfl)) pgs_nil))))
    (pss_one (ps_ret (pe_lc (own := [("_law_k", 6)]) (g := gName 6) rfl nd (pi_range1 (by rfl) (n_range S) (pa_cons pe_int pa_nil)) (blkOk_by (own := [("_law_k", 6)]) (N := ["_law_pen_here", "_law_parts_here", "_law_way", "_law_by", "_law_at", "_law_step", "_law_k"]) (sc := defScope s__law_near) (by decide +kernel)) (fun _ _ _ _ _ => (pg_name (i := 6) nd rfl (Or.inl rfl))) (fun _ _ _ _ _ => pts_nil) (fun _ _ _ _ _ => (pe_callB (call_max2 rfl) (by rfl) (n_max S) (by decide +kernel) (pa_cons pe_int (pa_cons (pe_callTy call_int1 (by rfl) (n_int S) (by decide +kernel) (pa_cons (pe_op op_add (pe_ix (ixk (r := rIxL) (K' := K) rfl ix_list) (pv 1) (pv 6) (fun _ _ => rfl)) (pe_op op_mul (pv 5) (pe_callTy call_int1 (by rfl) (n_int S) (by decide +kernel) (pa_cons (pe_cmpR op_eq (pv 6) (pv 4) (nomark _)) pa_nil)))) pa_nil)) pa_nil))))))))))))), ?_⟩
    try dsimp only [cxOf_K]
    obtain ⟨p, a, b, r, e, n, rfl, ha, ⟨b1, b2⟩, ⟨r1, r2⟩, ⟨e1, e2⟩, hP, hn, k⟩ := h
    unfold L3 at ha
    have ap : a ≠ p := hP.ne_lst ha (by rintro c b g z; cases z)
    refine go_start (σ' := [_, _, none, none, none, none, none]) rfl ?_
    walk_at "go"
    refine draw_go hP (by omega) (by omega) (by omega) fun w H1 w0 w1 P1 k1 => ?_
    walk_at "go"
    intro q nq
    walk_at "go"
    refine pick_new P1 (by omega) nq (by intro z; cases z) (by decide) fun v H2 hv P2 k2 _ => ?_
    obtain ⟨y, hy, rfl⟩ := List.mem_map.mp (show v ∈ ([1, 2, 3] : List Int).map V.int from hv)
    have y' : y = 1 ∨ y = 2 ∨ y = 3 := by simpa using hy
    have ha2 := k2 _ _ (k1 _ _ ha ap) ap
    have kk := k1.trans k2
    walk_at "go"
    refine go_dec (fun q0 => ?_) (fun q0 => ?_)
    · walk_at "go"
      refine ⟨p, _, rfl, P2, by omega, fun c H' b' r' e' h3 nc P' k' u0 u1 u2 u3 u4 u5 => ?_⟩
      exact k c H' b' r' e' h3 (kk.free P2 nc) P' (kk.trans k') ⟨by omega, by omega, by omega, by omega, by omega, by omega⟩
    · walk_at "go"
      refine go_dec (fun q1 => ?_) (fun q1 => ?_)
      · walk_at "go"
        intro c nc
        refine k c _ _ _ _ upd_same (kk.free P2 nc) ((P2.new nc).mono (by omega)) (kk.trans (Kp.new nc)) ?_
        rcases y' with rfl | rfl | rfl <;> exact ⟨by omega, by omega, by omega, by omega, by omega, by omega⟩
      · walk_at "go"
        refine go_dec (fun q2 => ?_) (fun q2 => ?_)
        · walk_at "go"
          intro c nc
          refine k c _ _ _ _ upd_same (kk.free P2 nc) ((P2.new nc).mono (by omega)) (kk.trans (Kp.new nc)) ?_
          rcases y' with rfl | rfl | rfl <;> exact ⟨by omega, by omega, by omega, by omega, by omega, by omega⟩
        · walk_at "go"
          refine draw_go P2 (by omega) (by omega) (by omega) fun z H3 z0 z1 P3 k3 => ?_
          walk_at "go"
          intro q' nq'
          walk_at "go"
          refine pick_new P3 (by omega) nq' (by intro z; cases z) (by decide) fun v' H4 hv' P4 k4 _ => ?_
          obtain ⟨s, hs, rfl⟩ := List.mem_map.mp (show v' ∈ ([-1, 1, 0, 2] : List Int).map V.int from hv')
          have s' : s = -1 ∨ s = 1 ∨ s = 0 ∨ s = 2 := by simpa using hs
          have ha4 := k4 _ _ (k3 _ _ ha2 ap) ap
          have kk4 := (kk.trans k3).trans k4
          walk_at "go"
          intro u nu
          have nu' := kk4.free P4 nu
          walk_at "go"
          refine lcRange (fun i => match i with | 0 => .int (nudge b s 0 z) | 1 => .int (nudge r s 1 z) | _ => .int (nudge e s 2 z)) (by decide) (fun _ => rfl) (fun i H' Q' hi s1 k' => ?_) (fun M H5 nM s5 hM => ?_)
          · have ha' := s1 _ _ (upd_keep nu ha4)
            have hi' : i = 0 ∨ i = 1 ∨ i = 2 := by
              have : i < 3 := hi
              omega
            dsimp only [List.map, wipe, List.set]
            rcases hi' with rfl | rfl | rfl <;> (walk_at "go"; exact k' H' (Same.refl H'))
          · have n0 := nudge_ok (k := 0) (z := z) s' b1
            have n1 := nudge_ok (k := 1) (z := z) s' r1
            have n2 := nudge_ok (k := 2) (z := z) s' e1
            have nM' := kk4.free P4 (show H4 M = none from by
              cases q : H4 M with
              | none => rfl
              | some o =>
                rw [upd_keep nu q] at nM
                cases nM)
            exact k M H5 _ _ _ hM nM' ((P4.new nu).same s5 |>.mono (by omega)) ((kk4.trans (Kp.new nu)).trans (CT.Same.kp s5)) ⟨by omega, by omega, by omega, by omega, by omega, by omega⟩
theorem cl__law_near {P : Program} {w : World} {base : Heap} (S : HD sys K mg) : Cl P w K mg base CX0 4 "_law_near" (spNear K) := ⟨_, _, _, (fk_cl__law_near S), g__law_near S, (d__law_near S).kp, b__law_near S⟩
/-! ### who is asked -/
def THeard (K : PySem.W.Frag) : (XK → Hp → VK → Prop) → Hp → VK → Prop := fun tl H Q =>
  tl (fun cls d H' => ∃ dd v, cls = .ref (ga K "BadBucket") ∧ d = some dd ∧ H' dd = some (.xd [("part", v)]) ∧ ∀ H'', Same H' H'' → Q v H'') H fun v H' => [v].length ≤ sizeLine ∧ ∀ p, H' p = none → Q (.ref p) (upd H' p (.lst [v]))
theorem heard_gives {X : Cx} (S : HD sys X.K X.mg) {g : Addr} {cdg : Value} {q : Str} :
    LamX.GivesTo X ["_law_ask", "_law_caught", "error"] "_law_heard" (defScope s__law_heard) g cdg (defBody s__law_heard) "_law_ask" q (THeard X.K) := by
  intro f c' s H Q tl act hc h
  have nd := sc__law_heard.nd
  refine ⟨_, pss_cons (ps_set (i := 1) nd rfl (Or.inl rfl) pe_non)
    (pss_cons (ps_try_keep (i := 2) (c := .ref (ga X.K "CreditError")) (Wout := fun _ _ _ _ => False) (tb := fun W D σ H => ∃ Ech : XK, (∀ cls d σ' H', Ech cls d H' → σ'.length = 3 → W cls d σ' H') ∧ tRet (tLst (tCons (tAskT f c' q (tl Ech)) tNil)) D σ H)
      rfl rfl rfl nd rfl rfl ⟨rfl, by decide, .inl (g_CreditError S)⟩ LamX.takes0 (fun W pn xe tk _ => ⟨fun pins s' σ H' D I h' => ?_⟩) (fun a oe cls d pn _ _ => pss_one (ps_set (i := 1) nd rfl (Or.inl rfl) (pv 2))))
    (pss_one (ps_ret (pe_ifExp (pt_val (pe_callB call_isX (by rfl) (n_isinstance S) (by decide +kernel) (pa_cons (pv 1) (pa_cons (pe_glob (v := .ref (ga X.K "BadBucket")) rfl (g_BadBucket S) rfl) pa_nil)))) (pe_xk (pv 1)) pe_str)))), ?_⟩
  · obtain ⟨Ech, hW, h3⟩ := h'
    have hp := fun p1 p2 => act (fun cls d σ H => σ.length = 3 → W cls d σ H) pn xe Ech p1 p2 (takes_len tk) hW
    exact (pss_one (ps_ret (pe_lst (pa_cons (hp _ _) pa_nil)))).run pins s' σ H' D I h3
  · refine go_start (σ' := [_, none, none]) rfl ?_
    walk_at "go"
    refine ⟨fun cls d H' => ∃ dd v, cls = .ref (ga X.K "BadBucket") ∧ d = some dd ∧ H' dd = some (.xd [("part", v)]) ∧ ∀ H'', Same H' H'' → Q v H'', ?_, ?_⟩
    · rintro cls d σ' H' ⟨dd, v, rfl, rfl, hd, k⟩ hl
      refine ⟨true, exm_BadBucket__CreditError__true S, fun _ a na => ?_, fun z => by cases z⟩
      have s2 : (σ'.set 2 (some (V.ref a)))[2]? = some (some (V.ref a)) := slot_set hl (by decide)
      refine go_asg (go_var s2 ?_)
      refine go_name rfl ?_
      have s1 : (((σ'.set 2 (some (V.ref a))).set 1 (some (V.ref a))).set 2 none)[1]? = some (some (V.ref a)) :=
        slot_past (slot_set (n := 3) (by rw [List.length_set]; exact hl) (by decide)) (by decide)
      have hx : upd H' a (ExK (.ref (ga X.K "BadBucket")) (some dd) a) a = some (ExK (.ref (ga X.K "BadBucket")) (some dd) a) := upd_same
      have hd' : upd H' a (ExK (.ref (ga X.K "BadBucket")) (some dd) a) dd = some (.xd [("part", v)]) := upd_keep na hd
      walk_at "go"
      refine go_var s1 ?_
      walk_at "go"
      refine go_isx hx hd' (exb_BadBucket S).2.1 (.own _) (kit_o_BadBucket__o_BadBucket__true S) ?_
      walk_at "go"
      refine go_xk (go_var s1 ?_)
      exact go_xkx hx (exb_BadBucket S).1 (na_BadBucket_part S) hd' lk_here (k _ (Same.new na))
    · walk_at "go"
      exact ⟨rfl, hc, h⟩
def spPair : Sp := fun vs H Q _ => ∃ (a c : Addr) (b1 r1 e1 b2 r2 e2 : Int), vs = [.ref a, .ref c] ∧ L3 H a b1 r1 e1 ∧ L3 H c b2 r2 e2 ∧ Bv b1 r1 e1 ∧ Bv b2 r2 e2 ∧ ∀ H', Same H H' → Q (.bl true) H'
def told (B A : Bool) : List Bool := [B, B && !(B && A), A, A && !(B && A), B && A, !(B && A)]
theorem told_ok (B A : Bool) : okBools (told B A) = true := by
  cases B <;> cases A <;> decide +kernel
def bits : List Int := [1, 5, 60, 200, 999, 100000000000000000000]
theorem bits_pos : ∀ n ∈ bits, 0 ≤ n := by decide
theorem fk_clg__law_pair_right {P : Program} {w : World} {base : Heap} (S : HD sys K mg) : FnOkG P w K mg base CX0 5 (Pl.adr K (Pl.fn "_law_pair_right")) (fdAt K (Pl.adr K (Pl.fn "_law_pair_right"))) ["_law_one", "_law_other"] (spPair) := by
  refine (d__law_pair_right S).okGD sc__law_pair_right (fun vs H Q E h => ?_) (fun A outer s H vs Q E hgd hr h => ?_)
  · repeat (first | (obtain ⟨rfl, _⟩ := h; rfl) | (obtain ⟨_, h⟩ := h))
  · have nd := sc__law_pair_right.nd
    refine ⟨_, PSs.nox ((pss_cons (ps_asg (pe_tup (pa_cons (pe_mke (mke_Bucket S) hr (by decide) pass0 (pa_cons (pe_ix ix_list (pv 0) pe_int (fun _ _ => rfl)) (pa_cons (pe_ix ix_list (pv 0) pe_int (fun _ _ => rfl)) (pa_cons (pe_ix ix_list (pv 0) pe_int (fun _ _ => rfl)) pa_nil)))) (pa_cons (pe_mke (mke_Bucket S) hr (by decide) pass0 (pa_cons (pe_ix ix_list (pv 1) pe_int (fun _ _ => rfl)) (pa_cons (pe_ix ix_list (pv 1) pe_int (fun _ _ => rfl)) (pa_cons (pe_ix ix_list (pv 1) pe_int (fun _ _ => rfl)) pa_nil)))) pa_nil))) (pg_tup (by rfl) (pgs_cons (pg_name (i := 2) nd rfl (Or.inr rfl)) (pgs_cons (pg_name (i := 3) nd rfl (Or.inr rfl)) pgs_nil))))
    (pss_cons (ps_par (i := 4) (j := 5) (by rfl) nd rfl rfl (by decide) rfl rfl (pa_cons (pe_f (cl__law_is_below S) hr (by decide) pass0 (pa_cons (pv 0) (pa_cons (pv 1) pa_nil))) (pa_cons (pe_f (cl__law_is_below S) hr (by decide) pass0 (pa_cons (pv 1) (pa_cons (pv 0) pa_nil))) pa_nil)) (by rfl))
    (pss_cons (ps_set (i := 6) nd rfl (Or.inl rfl) (pe_lst (pa_cons (pe_cmpR (op_own (op_Bucket___le__ S) (fun _ _ => rfl) hr (by decide) pass0) (pv 2) (pv 3) (nomark _)) (pa_cons (pe_cmpR (op_own (op_Bucket___lt__ S) (fun _ _ => rfl) hr (by decide) pass0) (pv 2) (pv 3) (nomark _)) (pa_cons (pe_cmpR (op_own (op_Bucket___ge__ S) (fun _ _ => rfl) hr (by decide) pass0) (pv 2) (pv 3) (nomark _)) (pa_cons (pe_cmpR (op_own (op_Bucket___gt__ S) (fun _ _ => rfl) hr (by decide) pass0) (pv 2) (pv 3) (nomark _)) (pa_cons (pe_cmpR (op_own (op_Bucket___eq__ S) (fun _ _ => rfl) hr (by decide) pass0) (pv 2) (pv 3) (nomark _)) (pa_cons (pe_cmpR (op_neq (op_Bucket___eq__ S) (ne_Bucket S) (in_Bucket S).hm hr (by decide) pass0) (pv 2) (pv 3) (nomark _)) pa_nil))))))))
    (pss_cons (ps_set (i := 7) nd rfl (Or.inl rfl) (pe_lst (pa_cons (pv 4) (pa_cons (pe_and (pv 4) (pe_one (pe_not (pv 5)))) (pa_cons (pv 5) (pa_cons (pe_and (pv 5) (pe_one (pe_not (pv 4)))) (pa_cons (pe_and (pv 4) (pe_one (pv 5))) (pa_cons (pe_or (pe_not (pv 4)) (pe_one (pe_not (pv 5)))) pa_nil))))))))
    (pss_cons (ps_if (PW.pt (pw_or (pt_cmpR op_ne (pe_callB (call_repr hgd hr.units) (by rfl) (n_repr S) (by decide +kernel) (pa_cons (pv 6) pa_nil)) (pe_callB (call_repr hgd hr.units) (by rfl) (n_repr S) (by decide +kernel) (pa_cons (pv 7) pa_nil)) (nomark _)) (pw_or1 (pt_cmpR op_ne (pe_and (pv 4) (pe_one (pv 5))) (pe_cmpR (op_eqD hr.units) (pv 0) (pv 1) (nomark _)) (nomark _))))) (pss_one (ps_ret pe_bl)) pss_nil)
    (pss_cons (ps_setLc (i := 8) (own := [("_law_bits_so", 9)]) (g := gName 9) (by rfl) nd rfl rfl (sw_true rfl rfl rfl (by decide +kernel)) (pi_tup (pe_tup (pa_cons pe_int (pa_cons pe_int (pa_cons pe_int (pa_cons pe_int (pa_cons pe_int (pa_cons (pe_op op_pow pe_int pe_int) pa_nil)))))))) (blkOk_by (own := [("_law_bits_so", 9)]) (N := ["_law_one", "_law_other", "_law_left", "_law_right", "_law_below", "_law_above", "_law_told", "_law_due", "_law_some", "_law_bits_so"]) (sc := defScope s__law_pair_right) (by decide +kernel)) (fun _ _ _ _ _ => (pg_name (i := 9) nd rfl (Or.inl rfl))) (fun _ _ _ _ _ => pts_one (pt_cmpR op_lt (pe_me (me_Bucket_earliest S) hr (by decide) pass0 (pv 2) (pa_cons (pv 9) pa_nil)) (pe_me (me_Bucket_earliest S) hr (by decide) pass0 (pv 3) (pa_cons (pv 9) pa_nil)) (nomark _))) (fun _ _ _ _ _ => (pv 9)))
    (pss_one (ps_ret (pe_or (pe_not (pv 4)) (pe_one (pe_cmpR (op_eqD hr.units) (pv 8) (pe_lst pa_nil) (nomark _))))))))))))), ?_⟩
    try dsimp only [cxOf_K]
    obtain ⟨a, c, b1, r1, e1, b2, r2, e2, rfl, ha, hc, v1, v2, k⟩ := h
    unfold L3 at ha hc
    refine go_start (σ' := [_, _, none, none, none, none, none, none, none, none]) rfl ?_
    walk_at "go"
    refine bk_make v1 fun x H1 nx s1 hx => ?_
    have hc1 := s1 _ _ hc
    walk_at "go"
    refine bk_make v2 fun y H2 ny s2 hy => ?_
    walk_at "go"
    intro t nt
    have s3 : Same H (upd H2 t (.tup [.ref x, .ref y])) := (s1.trans s2).trans (Same.new nt)
    have ha3 := s3 _ _ ha
    have hc3 := s3 _ _ hc
    obtain ⟨dx, hx1⟩ := hx
    obtain ⟨dy, hy2⟩ := hy
    have hx3 := upd_keep (o := .tup [.ref x, .ref y]) nt (s2 _ _ hx1)
    have hy3 := upd_keep (o := .tup [.ref x, .ref y]) nt hy2
    walk_at "go"
    generalize upd H2 t (.tup [.ref x, .ref y]) = H3 at s3 ha3 hc3 hx3 hy3 ⊢
    refine ⟨a, c, b1, r1, e1, b2, r2, e2, rfl, ha3, hc3, v1, v2, ?_⟩
    walk_at "go"
    refine ⟨c, a, b2, r2, e2, b1, r1, e1, rfl, hc3, ha3, v2, v1, ?_⟩
    walk_at "go"
    refine go_own hx3 (tyIns (in_Bucket S) hy3) (fr_Bucket_o_Bucket S) ?_
    refine ⟨x, y, b1, r1, e1, b2, r2, e2, rfl, ⟨_, hx3⟩, ⟨_, hy3⟩, v1, v2, fun H4 s4 => ?_⟩
    have hx4 := s4 _ _ hx3
    have hy4 := s4 _ _ hy3
    walk_at "go"
    refine go_own hx4 (tyIns (in_Bucket S) hy4) (fr_Bucket_o_Bucket S) ?_
    refine ⟨x, y, b1, r1, e1, b2, r2, e2, rfl, ⟨_, hx4⟩, ⟨_, hy4⟩, v1, v2, fun H5 s5 => ?_⟩
    have hx5 := s5 _ _ hx4
    have hy5 := s5 _ _ hy4
    walk_at "go"
    refine go_own hx5 (tyIns (in_Bucket S) hy5) (fr_Bucket_o_Bucket S) ?_
    refine ⟨x, y, b1, r1, e1, b2, r2, e2, rfl, ⟨_, hx5⟩, ⟨_, hy5⟩, v1, v2, fun H6 s6 => ?_⟩
    have hx6 := s6 _ _ hx5
    have hy6 := s6 _ _ hy5
    walk_at "go"
    refine go_own hx6 (tyIns (in_Bucket S) hy6) (fr_Bucket_o_Bucket S) ?_
    refine ⟨x, y, b1, r1, e1, b2, r2, e2, rfl, ⟨_, hx6⟩, ⟨_, hy6⟩, v1, v2, fun H7 s7 => ?_⟩
    have hx7 := s7 _ _ hx6
    have hy7 := s7 _ _ hy6
    walk_at "go"
    refine go_own hx7 (tyIns (in_Bucket S) hy7) (fr_Bucket_o_Bucket S) ?_
    refine ⟨x, y, b1, r1, e1, b2, r2, e2, rfl, ⟨_, hx7⟩, ⟨_, hy7⟩, ?_⟩
    walk_at "go"
    refine go_nec hx7 (tyIns (in_Bucket S) hy7) (fr_Bucket_o_Bucket S) ?_
    refine ⟨x, y, b1, r1, e1, b2, r2, e2, rfl, ⟨_, hx7⟩, ⟨_, hy7⟩, _, rfl, ?_⟩
    walk_at "go"
    obtain ⟨b11, b12, r11, r12, e11, e12⟩ := v1
    obtain ⟨b21, b22, r21, r22, e21, e22⟩ := v2
    have hD := Bk.both_iff (b1 := b1) (b2 := b2) (r1 := r1) (r2 := r2) (e1 := e1) (e2 := e2) (by omega) (by omega) (by omega) (by omega)
    have hL : decide (([b1, r1, e1] : List Int) = [b2, r2, e2]) = decide (b1 = b2 ∧ r1 = r2 ∧ e1 = e2) := by simp
    have hE : ∀ n, Bk.below b1 r1 e1 b2 r2 e2 = true → Bk.early b2 r2 e2 n ≤ Bk.early b1 r1 e1 n := fun n => Bk.early_anti (by omega) (by omega) (by omega) (by omega)
    rw [Bk.atMost_eq (by omega) (by omega) (by omega), Bk.atMost_eq (by omega) (by omega) (by omega), ← hD]
    rw [← hD] at hL
    have s7' : Same H3 H7 := (s4.trans s5).trans (s6.trans s7)
    have ha7 := s7' _ _ ha3
    have hc7 := s7' _ _ hc3
    have sH7 := s3.trans s7'
    generalize Bk.below b1 r1 e1 b2 r2 e2 = B at hL hE ⊢
    generalize Bk.below b2 r2 e2 b1 r1 e1 = A' at hL ⊢
    intro p np
    have hp8 : upd H7 p (.lst [.bl B, .bl (B && !(B && A')), .bl A', .bl (A' && !(B && A')), .bl (B && A'), .bl (!(B && A'))]) p = some (.lst ((told B A').map V.bl)) := upd_same
    have ha8 := upd_keep (o := .lst [.bl B, .bl (B && !(B && A')), .bl A', .bl (A' && !(B && A')), .bl (B && A'), .bl (!(B && A'))]) np ha7
    have hc8 := upd_keep (o := .lst [.bl B, .bl (B && !(B && A')), .bl A', .bl (A' && !(B && A')), .bl (B && A'), .bl (!(B && A'))]) np hc7
    have hx8 := upd_keep (o := .lst [.bl B, .bl (B && !(B && A')), .bl A', .bl (A' && !(B && A')), .bl (B && A'), .bl (!(B && A'))]) np hx7
    have hy8 := upd_keep (o := .lst [.bl B, .bl (B && !(B && A')), .bl A', .bl (A' && !(B && A')), .bl (B && A'), .bl (!(B && A'))]) np hy7
    have s8 := sH7.trans (Same.new (o := .lst [.bl B, .bl (B && !(B && A')), .bl A', .bl (A' && !(B && A')), .bl (B && A'), .bl (!(B && A'))]) np)
    walk_at "go"
    generalize upd H7 p (.lst [.bl B, .bl (B && !(B && A')), .bl A', .bl (A' && !(B && A')), .bl (B && A'), .bl (!(B && A'))]) = H8 at hp8 ha8 hc8 hx8 hy8 s8 ⊢
    cases B <;> cases A'
    · walk_at "go"
      intro q nq
      have hq9 : upd H8 q (.lst ((told false false).map V.bl)) q = some (.lst ((told false false).map V.bl)) := upd_same
      have hp9 := upd_keep (o := .lst ((told false false).map V.bl)) nq hp8
      have ha9 := upd_keep (o := .lst ((told false false).map V.bl)) nq ha8
      have hc9 := upd_keep (o := .lst ((told false false).map V.bl)) nq hc8
      have hx9 := upd_keep (o := .lst ((told false false).map V.bl)) nq hx8
      have hy9 := upd_keep (o := .lst ((told false false).map V.bl)) nq hy8
      have s9 := s8.trans (Same.new (o := .lst ((told false false).map V.bl)) nq)
      walk_at "go"
      refine repr_bools (bs := told false false) (SqL.of hp9) (told_ok _ _) ?_
      walk_at "go"
      refine repr_bools (bs := told false false) (SqL.of hq9) (told_ok _ _) ?_
      walk_at "go"
      refine go_ndec (fun z => absurd rfl z) (fun _ => ?_)
      walk_at "go"
      refine go_eqInts (ns := [b1, r1, e1]) (ms := [b2, r2, e2]) (SqL.of ha9) (SqL.of hc9) ?_
      rw [hL]
      walk_at "go"
      refine go_ndec (fun z => absurd rfl z) (fun _ => ?_)
      walk_at "go"
      intro u nu
      have hx10 := upd_keep (o := .tup (bits.map V.int)) nu (upd_keep nq hx8)
      have hy10 := upd_keep (o := .tup (bits.map V.int)) nu (upd_keep nq hy8)
      have s10 := (s8.trans (Same.new nq)).trans (Same.new (o := .tup (bits.map V.int)) nu)
      refine go_tupIx (xs := bits.map V.int) (SqT.of upd_same) ?_
      refine lcTupIf (xs := bits.map V.int) (fun v => match v with | .int n => decide (Bk.early b1 r1 e1 n < Bk.early b2 r2 e2 n) | _ => false) id (by decide) (SqT.of upd_same) (fun _ => rfl) (fun v H' Q' hv s k' => ?_) (fun v H' Q' hv hcv s k' => ?_) (fun D H' nD s hD => ?_)
      · obtain ⟨n, hn, rfl⟩ := List.mem_map.mp hv
        have n0 : 0 ≤ n := bits_pos n hn
        have hx' := s _ _ hx10
        have hy' := s _ _ hy10
        dsimp only [List.map, wipe, List.set]
        walk_at "go"
        refine ⟨x, b1, r1, e1, n, rfl, ⟨dx, hx'⟩, ⟨b11, b12, r11, r12, e11, e12⟩, n0, ?_⟩
        walk_at "go"
        refine ⟨y, b2, r2, e2, n, rfl, ⟨dy, hy'⟩, ⟨b21, b22, r21, r22, e21, e22⟩, n0, ?_⟩
        walk_at "go"
        exact k' H' (Same.refl H')
      · dsimp only [List.map, wipe, List.set]
        walk_at "go"
        exact k' H' (Same.refl H')
      · rw [List.map_id] at hD
        walk_at "go"
        exact k _ (s10.trans s)
    · walk_at "go"
      intro q nq
      have hq9 : upd H8 q (.lst ((told false true).map V.bl)) q = some (.lst ((told false true).map V.bl)) := upd_same
      have hp9 := upd_keep (o := .lst ((told false true).map V.bl)) nq hp8
      have ha9 := upd_keep (o := .lst ((told false true).map V.bl)) nq ha8
      have hc9 := upd_keep (o := .lst ((told false true).map V.bl)) nq hc8
      have hx9 := upd_keep (o := .lst ((told false true).map V.bl)) nq hx8
      have hy9 := upd_keep (o := .lst ((told false true).map V.bl)) nq hy8
      have s9 := s8.trans (Same.new (o := .lst ((told false true).map V.bl)) nq)
      walk_at "go"
      refine repr_bools (bs := told false true) (SqL.of hp9) (told_ok _ _) ?_
      walk_at "go"
      refine repr_bools (bs := told false true) (SqL.of hq9) (told_ok _ _) ?_
      walk_at "go"
      refine go_ndec (fun z => absurd rfl z) (fun _ => ?_)
      walk_at "go"
      refine go_eqInts (ns := [b1, r1, e1]) (ms := [b2, r2, e2]) (SqL.of ha9) (SqL.of hc9) ?_
      rw [hL]
      walk_at "go"
      refine go_ndec (fun z => absurd rfl z) (fun _ => ?_)
      walk_at "go"
      intro u nu
      have hx10 := upd_keep (o := .tup (bits.map V.int)) nu (upd_keep nq hx8)
      have hy10 := upd_keep (o := .tup (bits.map V.int)) nu (upd_keep nq hy8)
      have s10 := (s8.trans (Same.new nq)).trans (Same.new (o := .tup (bits.map V.int)) nu)
      refine go_tupIx (xs := bits.map V.int) (SqT.of upd_same) ?_
      refine lcTupIf (xs := bits.map V.int) (fun v => match v with | .int n => decide (Bk.early b1 r1 e1 n < Bk.early b2 r2 e2 n) | _ => false) id (by decide) (SqT.of upd_same) (fun _ => rfl) (fun v H' Q' hv s k' => ?_) (fun v H' Q' hv hcv s k' => ?_) (fun D H' nD s hD => ?_)
      · obtain ⟨n, hn, rfl⟩ := List.mem_map.mp hv
        have n0 : 0 ≤ n := bits_pos n hn
        have hx' := s _ _ hx10
        have hy' := s _ _ hy10
        dsimp only [List.map, wipe, List.set]
        walk_at "go"
        refine ⟨x, b1, r1, e1, n, rfl, ⟨dx, hx'⟩, ⟨b11, b12, r11, r12, e11, e12⟩, n0, ?_⟩
        walk_at "go"
        refine ⟨y, b2, r2, e2, n, rfl, ⟨dy, hy'⟩, ⟨b21, b22, r21, r22, e21, e22⟩, n0, ?_⟩
        walk_at "go"
        exact k' H' (Same.refl H')
      · dsimp only [List.map, wipe, List.set]
        walk_at "go"
        exact k' H' (Same.refl H')
      · rw [List.map_id] at hD
        walk_at "go"
        exact k _ (s10.trans s)
    · walk_at "go"
      intro q nq
      have hq9 : upd H8 q (.lst ((told true false).map V.bl)) q = some (.lst ((told true false).map V.bl)) := upd_same
      have hp9 := upd_keep (o := .lst ((told true false).map V.bl)) nq hp8
      have ha9 := upd_keep (o := .lst ((told true false).map V.bl)) nq ha8
      have hc9 := upd_keep (o := .lst ((told true false).map V.bl)) nq hc8
      have hx9 := upd_keep (o := .lst ((told true false).map V.bl)) nq hx8
      have hy9 := upd_keep (o := .lst ((told true false).map V.bl)) nq hy8
      have s9 := s8.trans (Same.new (o := .lst ((told true false).map V.bl)) nq)
      walk_at "go"
      refine repr_bools (bs := told true false) (SqL.of hp9) (told_ok _ _) ?_
      walk_at "go"
      refine repr_bools (bs := told true false) (SqL.of hq9) (told_ok _ _) ?_
      walk_at "go"
      refine go_ndec (fun z => absurd rfl z) (fun _ => ?_)
      walk_at "go"
      refine go_eqInts (ns := [b1, r1, e1]) (ms := [b2, r2, e2]) (SqL.of ha9) (SqL.of hc9) ?_
      rw [hL]
      walk_at "go"
      refine go_ndec (fun z => absurd rfl z) (fun _ => ?_)
      walk_at "go"
      intro u nu
      have hx10 := upd_keep (o := .tup (bits.map V.int)) nu (upd_keep nq hx8)
      have hy10 := upd_keep (o := .tup (bits.map V.int)) nu (upd_keep nq hy8)
      have s10 := (s8.trans (Same.new nq)).trans (Same.new (o := .tup (bits.map V.int)) nu)
      refine go_tupIx (xs := bits.map V.int) (SqT.of upd_same) ?_
      refine lcTupIf (xs := bits.map V.int) (fun v => match v with | .int n => decide (Bk.early b1 r1 e1 n < Bk.early b2 r2 e2 n) | _ => false) id (by decide) (SqT.of upd_same) (fun _ => rfl) (fun v H' Q' hv s k' => ?_) (fun v H' Q' hv hcv s k' => ?_) (fun D H' nD s hD => ?_)
      · obtain ⟨n, hn, rfl⟩ := List.mem_map.mp hv
        have n0 : 0 ≤ n := bits_pos n hn
        have hx' := s _ _ hx10
        have hy' := s _ _ hy10
        dsimp only [List.map, wipe, List.set]
        walk_at "go"
        refine ⟨x, b1, r1, e1, n, rfl, ⟨dx, hx'⟩, ⟨b11, b12, r11, r12, e11, e12⟩, n0, ?_⟩
        walk_at "go"
        refine ⟨y, b2, r2, e2, n, rfl, ⟨dy, hy'⟩, ⟨b21, b22, r21, r22, e21, e22⟩, n0, ?_⟩
        walk_at "go"
        exact k' H' (Same.refl H')
      · dsimp only [List.map, wipe, List.set]
        walk_at "go"
        exact k' H' (Same.refl H')
      · rw [List.map_id] at hD
        have hf : (bits.map V.int).filter (fun v => match v with | .int n => decide (Bk.early b1 r1 e1 n < Bk.early b2 r2 e2 n) | _ => false) = [] := by
          refine List.filter_eq_nil_iff.mpr fun v hv => ?_
          obtain ⟨n, hn, rfl⟩ := List.mem_map.mp hv
          have := hE n rfl
          simp
          omega
        rw [hf] at hD
        walk_at "go"
        intro z nz
        refine go_eqInts (ns := []) (ms := []) (SqL.of (upd_keep nz hD)) (SqL.of upd_same) ?_
        exact k _ ((s10.trans s).trans (Same.new nz))
    · walk_at "go"
      intro q nq
      have hq9 : upd H8 q (.lst ((told true true).map V.bl)) q = some (.lst ((told true true).map V.bl)) := upd_same
      have hp9 := upd_keep (o := .lst ((told true true).map V.bl)) nq hp8
      have ha9 := upd_keep (o := .lst ((told true true).map V.bl)) nq ha8
      have hc9 := upd_keep (o := .lst ((told true true).map V.bl)) nq hc8
      have hx9 := upd_keep (o := .lst ((told true true).map V.bl)) nq hx8
      have hy9 := upd_keep (o := .lst ((told true true).map V.bl)) nq hy8
      have s9 := s8.trans (Same.new (o := .lst ((told true true).map V.bl)) nq)
      walk_at "go"
      refine repr_bools (bs := told true true) (SqL.of hp9) (told_ok _ _) ?_
      walk_at "go"
      refine repr_bools (bs := told true true) (SqL.of hq9) (told_ok _ _) ?_
      walk_at "go"
      refine go_ndec (fun z => absurd rfl z) (fun _ => ?_)
      walk_at "go"
      refine go_eqInts (ns := [b1, r1, e1]) (ms := [b2, r2, e2]) (SqL.of ha9) (SqL.of hc9) ?_
      rw [hL]
      walk_at "go"
      refine go_ndec (fun z => absurd rfl z) (fun _ => ?_)
      walk_at "go"
      intro u nu
      have hx10 := upd_keep (o := .tup (bits.map V.int)) nu (upd_keep nq hx8)
      have hy10 := upd_keep (o := .tup (bits.map V.int)) nu (upd_keep nq hy8)
      have s10 := (s8.trans (Same.new nq)).trans (Same.new (o := .tup (bits.map V.int)) nu)
      refine go_tupIx (xs := bits.map V.int) (SqT.of upd_same) ?_
      refine lcTupIf (xs := bits.map V.int) (fun v => match v with | .int n => decide (Bk.early b1 r1 e1 n < Bk.early b2 r2 e2 n) | _ => false) id (by decide) (SqT.of upd_same) (fun _ => rfl) (fun v H' Q' hv s k' => ?_) (fun v H' Q' hv hcv s k' => ?_) (fun D H' nD s hD => ?_)
      · obtain ⟨n, hn, rfl⟩ := List.mem_map.mp hv
        have n0 : 0 ≤ n := bits_pos n hn
        have hx' := s _ _ hx10
        have hy' := s _ _ hy10
        dsimp only [List.map, wipe, List.set]
        walk_at "go"
        refine ⟨x, b1, r1, e1, n, rfl, ⟨dx, hx'⟩, ⟨b11, b12, r11, r12, e11, e12⟩, n0, ?_⟩
        walk_at "go"
        refine ⟨y, b2, r2, e2, n, rfl, ⟨dy, hy'⟩, ⟨b21, b22, r21, r22, e21, e22⟩, n0, ?_⟩
        walk_at "go"
        exact k' H' (Same.refl H')
      · dsimp only [List.map, wipe, List.set]
        walk_at "go"
        exact k' H' (Same.refl H')
      · rw [List.map_id] at hD
        have hf : (bits.map V.int).filter (fun v => match v with | .int n => decide (Bk.early b1 r1 e1 n < Bk.early b2 r2 e2 n) | _ => false) = [] := by
          refine List.filter_eq_nil_iff.mpr fun v hv => ?_
          obtain ⟨n, hn, rfl⟩ := List.mem_map.mp hv
          have := hE n rfl
          simp
          omega
        rw [hf] at hD
        walk_at "go"
        intro z nz
        refine go_eqInts (ns := []) (ms := []) (SqL.of (upd_keep nz hD)) (SqL.of upd_same) ?_
        exact k _ ((s10.trans s).trans (Same.new nz))
theorem clg__law_pair_right {P : Program} {w : World} {base : Heap} (S : HD sys K mg) : ClG P w K mg base CX0 5 "_law_pair_right" (spPair) := ⟨_, _, _, (fk_clg__law_pair_right S), g__law_pair_right S, (d__law_pair_right S).kp, b__law_pair_right S⟩
abbrev T_law (K : PySem.W.Frag) : List (Addr × Str) := [((tabAt K (ga K "law")).2, (envOfC "law" (defScope s_law) 0 0 .none).qual ++ "<lambda>")]
def spLaw (K : PySem.W.Frag) : Sp := fun vs H Q _ => ∃ (a : Addr) (ns : List Int), vs = [.ref a] ∧ SqL K H a (ns.map V.int) ∧ H (tabAt K (ga K "law")).2 = some (.tbl #[]) ∧ ∀ H', Q (.bl true) H'
theorem odd_facts (S : HD sys K mg) {H : Hp} {v : V} {n : String} (h : OddV H v n) : PySem.W.notFirst K (ga K "Bucket") (.type n) = true ∧ PySem.W.kitOne K (.type n) (.ref (ga K "Bucket")) = some false := by
  cases h with
  | non => exact ⟨fr_Bucket_NoneType S, kit_NoneType__o_Bucket__false S⟩
  | int i => exact ⟨fr_Bucket_int S, kit_int__o_Bucket__false S⟩
  | bl b => exact ⟨fr_Bucket_bool S, kit_bool__o_Bucket__false S⟩
  | str s => exact ⟨fr_Bucket_str S, kit_str__o_Bucket__false S⟩
  | lst e => exact ⟨fr_Bucket_list S, kit_list__o_Bucket__false S⟩
  | tup e => exact ⟨fr_Bucket_tuple S, kit_tuple__o_Bucket__false S⟩
  | dK e => exact ⟨fr_Bucket_dict S, kit_dict__o_Bucket__false S⟩
theorem heard_go (S : HD sys K mg) {i j : Nat} {σ : L2.St} {H : Hp} {Q : VK} {T : List (Addr × Str)} {m dx : Addr} {fs : List (Str × V)} {v : V} {n : String} (hT : LamX.Tabs T H) (hi : σ[i]? = some (some (.ref m))) (hj : σ[j]? = some (some v))
    (hm : H m = some (.ins (ga K "Bucket") dx fs)) (hv : OddV H v n) (k : ∀ H', LamX.ExtN H H' → LamX.Tabs T H' → Q (.str "other") H') :
    LamX.tLam T (THeard K) (fun E => tOp (rOwnC K (ga K "Bucket") (spOddOp (ga K "Bucket") K) E) (tVar i) (tVar j)) σ H Q := by
  refine go_lam hT fun H1 e1 T1 => ?_
  have hm1 := e1 _ _ hm (fun _ z => by cases z)
  have hv1 := hv.ext e1
  refine go_op (go_var hi (go_var hj ?_))
  refine go_own hm1 hv1.ty (odd_facts S hv).1 ?_
  refine ⟨m, v, _, rfl, hv1.ty, (odd_facts S hv).2, fun d H2 nd s2 hd => ?_⟩
  refine ⟨d, _, rfl, rfl, hd, fun H3 s3 => ?_⟩
  exact k H3 (e1.trans (LamX.ExtN.of (s2.trans s3))) (tabs_same (tabs_same T1 s2) s3)
/-- what holds while the odd one is asked of -/
structure Lap (K : PySem.W.Frag) (p made dm : Addr) (b r e : Int) (v : V) (n : String) (T : List (Addr × Str)) (m : Nat) (H : Hp) : Prop where
  pen : Pen K H p m
  tabs : LamX.Tabs T H
  made : H made = some (.ins (ga K "Bucket") dm (bkF b r e))
  odd : OddV H v n
section
variable {p made dm l : Addr} {b r e : Int} {v : V} {n : String} {T : List (Addr × Str)} {m : Nat} {H H' : Hp}
theorem Lap.ext (h : Lap K p made dm b r e v n T m H) (x : LamX.ExtN H H') (t : LamX.Tabs T H') : Lap K p made dm b r e v n T m H' := ⟨pen_ext h.pen x, t, x _ _ h.made (fun _ z => by cases z), h.odd.ext x⟩
theorem Lap.same (h : Lap K p made dm b r e v n T m H) (s : Same H H') : Lap K p made dm b r e v n T m H' := h.ext (LamX.ExtN.of s) (tabs_same h.tabs s)
theorem Lap.put {xs ys : List V} (h : Lap K p made dm b r e v n T m H) (hl : H l = some (.lst xs)) (d : ∀ c b g, xs ≠ [.ref c, .int b, .int g]) (d2 : ∀ ns : List Int, xs ≠ ns.map V.int) : Lap K p made dm b r e v n T m (upd H l (.lst ys)) := by
  have lp := h.pen.ne_lst hl d
  obtain ⟨c, ns, b', g, h1, h2, h3, h4, h5, h6⟩ := h.pen
  refine ⟨⟨c, ns, b', g, (upd_ne (Ne.symm lp)).trans h1, ?_, h3, h4, h5, h6⟩, tabs_kp h.tabs Kp.put ⟨_, hl⟩, (upd_ne (ne_of h.made hl (by intro z; cases z))).trans h.made, h.odd.put hl⟩
  by_cases z : c = l
  · subst z
    rcases h2 with (q | ⟨o, q⟩) | q
    · rw [hl] at q
      cases q
      exact absurd rfl (d2 ns)
    · rw [hl] at q
      cases q
    · exact .inr q
  · exact (Kp.put (o := .lst ys)).seqL h2 z
end
theorem at1 : Bk.atMost 60 500 1000 558 499 998 = true := by decide +kernel
theorem at2 : Bk.atMost 60 500 1000 557 499 998 = false := by decide +kernel
theorem at3 : Bk.atMost (1000000 - 999) 1 1 1000000 1000 1000 = true := by decide +kernel
theorem at4 : Bk.atMost 1000000 1000 1000 (1000000 - 999) 1 1 = false := by decide +kernel
theorem at5 : (Bk.atMost 1 1 1000 1000000 1000 1000 && !decide ((1 : Int) = 1000000 ∧ (1 : Int) = 1000 ∧ (1000 : Int) = 1000)) = true := by decide +kernel
theorem at6 : (Bk.atMost 1 999 1 1 1000 1 && !decide ((1 : Int) = 1 ∧ (1000 : Int) = 999 ∧ (1 : Int) = 1)) = true := by decide +kernel
theorem law_ok {P : Program} {w : World} {base : Heap} (S : HD sys K mg) (TB : LamX.TabB base mg (tabAt K (ga K "law")).1 (tabAt K (ga K "law")).2) : FnOkG P w K mg base CX0 7 (Pl.adr K (Pl.fn "law")) (fdAt K (Pl.adr K (Pl.fn "law"))) ["_law_script"] (spLaw K) := by
  have hcode := code_of (d_law S)
  refine (d_law S).okGD sc_law (fun vs H Q E h => ?_) (fun A outer s H vs Q E hgd hr h => ?_)
  · repeat (first | (obtain ⟨rfl, _⟩ := h; rfl) | (obtain ⟨_, h⟩ := h))
  · have nd := sc_law.nd
    refine ⟨_, PSs.nox ((pss_cons (ps_set (i := 1) nd rfl (Or.inl rfl) (pe_f (cl__law_pen S) hr (by decide) pass0 (pa_cons (pv 0) pa_nil)))
    (pss_cons (ps_for PassesOwn.never rfl (pi_range1 (by rfl) (n_range S) (pa_cons pe_int pa_nil)) (pg_name (i := 2) nd rfl (Or.inl rfl))
      (pss_cons (ps_set (i := 3) nd rfl (Or.inl rfl) (pe_f (cl__law_parts S) hr (by decide) pass0 (pa_cons (pv 1) pa_nil)))
    (pss_cons (ps_par (i := 4) (j := 5) (by rfl) nd rfl rfl (by decide) rfl rfl (pa_cons (pe_f (cl__law_near S) hr (by decide) pass0 (pa_cons (pv 1) (pa_cons (pv 3) pa_nil))) (pa_cons (pe_f (cl__law_near S) hr (by decide) pass0 (pa_cons (pv 1) (pa_cons (pv 3) pa_nil))) pa_nil)) (by rfl))
    (pss_cons (ps_for PassesOwn.never rfl (pi_list (pe_lst (pa_cons (pe_tup (pa_cons (pv 3) (pa_cons (pv 4) pa_nil))) (pa_cons (pe_tup (pa_cons (pv 4) (pa_cons (pv 3) pa_nil))) (pa_cons (pe_tup (pa_cons (pv 4) (pa_cons (pv 5) pa_nil))) (pa_cons (pe_tup (pa_cons (pv 3) (pa_cons (pv 3) pa_nil))) (pa_cons (pe_tup (pa_cons (pv 5) (pa_cons (pv 3) pa_nil))) pa_nil))))))) (pg_tup (by rfl) (pgs_cons (pg_name (i := 6) nd rfl (Or.inl rfl)) (pgs_cons (pg_name (i := 7) nd rfl (Or.inl rfl)) pgs_nil)))
      (pss_one (ps_if (pt_not (pt_val (pe_fG (clg__law_pair_right S) hr (by decide) hgd pass0 (pa_cons (pv 6) (pa_cons (pv 7) pa_nil))))) (pss_one (ps_ret pe_bl)) pss_nil)))
    (pss_cons (ps_set (i := 12) nd rfl (Or.inr rfl) (pe_mke (mke_Bucket S) hr (by decide) pass0 (pa_cons (pe_ix ix_list (pv 3) pe_int (fun _ _ => rfl)) (pa_cons (pe_ix ix_list (pv 3) pe_int (fun _ _ => rfl)) (pa_cons (pe_ix ix_list (pv 3) pe_int (fun _ _ => rfl)) pa_nil)))))
    (pss_cons (ps_set (i := 13) nd rfl (Or.inr rfl) (pe_f (cl__law_pick S) hr (by decide) pass0 (pa_cons (pv 1) (pa_cons (pe_lst (pa_cons pe_non (pa_cons pe_int (pa_cons pe_bl (pa_cons pe_str (pa_cons (pe_lst pa_nil) (pa_cons (pe_tup (pa_cons pe_int (pa_cons pe_int (pa_cons pe_int pa_nil)))) (pa_cons pe_dnewK (pa_cons (pv 3) pa_nil))))))))) pa_nil))))
    (pss_cons (ps_set (i := 8) nd rfl (Or.inl rfl) (pe_lst (pa_cons (pe_lam (T := T_law K) (k := 4) (g__law_heard S) (d__law_heard S) (b__law_heard S) sc__law_heard rfl (.inl rfl) (fun _ => heard_gives S) TB hcode (List.mem_singleton.mpr rfl) (fun p hp _ => by cases List.mem_singleton.mp hp; rfl) (hr.mono (by decide)) (LamX.lamS_by (sc := defScope s_law) (by decide +kernel)) rfl (fun _ _ _ _ _ => rfl) (fun A outer s H E f c' hr' => (pe_cmpR (op_ownk (K' := K) rfl (op_Bucket___le___x S) (fun _ _ => rfl) hr' (by decide) (passes_call (takes_of rfl rfl rfl rfl) (fun _ _ _ _ h => h))) (pv 12) (pv 13) (nomark _)))) pa_nil)))
    (pss_cons (ps_expr (pe_bm PySem.F.plainAttrs_list PySem.F.slot_list_append PySem.F.type_list_append mt_append (pv 8) (pa_cons (pe_lam (T := T_law K) (k := 4) (g__law_heard S) (d__law_heard S) (b__law_heard S) sc__law_heard rfl (.inl rfl) (fun _ => heard_gives S) TB hcode (List.mem_singleton.mpr rfl) (fun p hp _ => by cases List.mem_singleton.mp hp; rfl) (hr.mono (by decide)) (LamX.lamS_by (sc := defScope s_law) (by decide +kernel)) rfl (fun _ _ _ _ _ => rfl) (fun A outer s H E f c' hr' => (pe_cmpR (op_ownk (K' := K) rfl (op_Bucket___lt___x S) (fun _ _ => rfl) hr' (by decide) (passes_call (takes_of rfl rfl rfl rfl) (fun _ _ _ _ h => h))) (pv 12) (pv 13) (nomark _)))) pa_nil)))
    (pss_cons (ps_expr (pe_bm PySem.F.plainAttrs_list PySem.F.slot_list_append PySem.F.type_list_append mt_append (pv 8) (pa_cons (pe_lam (T := T_law K) (k := 4) (g__law_heard S) (d__law_heard S) (b__law_heard S) sc__law_heard rfl (.inl rfl) (fun _ => heard_gives S) TB hcode (List.mem_singleton.mpr rfl) (fun p hp _ => by cases List.mem_singleton.mp hp; rfl) (hr.mono (by decide)) (LamX.lamS_by (sc := defScope s_law) (by decide +kernel)) rfl (fun _ _ _ _ _ => rfl) (fun A outer s H E f c' hr' => (pe_cmpR (op_ownk (K' := K) rfl (op_Bucket___ge___x S) (fun _ _ => rfl) hr' (by decide) (passes_call (takes_of rfl rfl rfl rfl) (fun _ _ _ _ h => h))) (pv 12) (pv 13) (nomark _)))) pa_nil)))
    (pss_cons (ps_expr (pe_bm PySem.F.plainAttrs_list PySem.F.slot_list_append PySem.F.type_list_append mt_append (pv 8) (pa_cons (pe_lam (T := T_law K) (k := 4) (g__law_heard S) (d__law_heard S) (b__law_heard S) sc__law_heard rfl (.inl rfl) (fun _ => heard_gives S) TB hcode (List.mem_singleton.mpr rfl) (fun p hp _ => by cases List.mem_singleton.mp hp; rfl) (hr.mono (by decide)) (LamX.lamS_by (sc := defScope s_law) (by decide +kernel)) rfl (fun _ _ _ _ _ => rfl) (fun A outer s H E f c' hr' => (pe_cmpR (op_ownk (K' := K) rfl (op_Bucket___gt___x S) (fun _ _ => rfl) hr' (by decide) (passes_call (takes_of rfl rfl rfl rfl) (fun _ _ _ _ h => h))) (pv 12) (pv 13) (nomark _)))) pa_nil)))
    (pss_one (ps_if (PW.pt (pw_or (pt_cmpR (op_neD hr.units) (pv 8) (pe_op op_rep (pe_lst (pa_cons pe_str pa_nil)) pe_int) (nomark _)) (pw_or1 (pt_cmpR (op_own (op_Bucket___eq___x S) (fun _ _ => rfl) hr (by decide) pass0) (pv 12) (pv 13) (nomark _))))) (pss_one (ps_ret pe_bl)) pss_nil))))))))))))
    (pss_cons (ps_set (i := 9) nd rfl (Or.inl rfl) (pe_mke (mke_Bucket S) hr (by decide) pass0 (pa_cons pe_int (pa_cons pe_int (pa_cons pe_int pa_nil)))))
    (pss_cons (ps_if (PW.pt (pw_or (pt_not (pt_cmpR (op_own (op_Bucket___le__ S) (fun _ _ => rfl) hr (by decide) pass0) (pv 9) (pe_mke (mke_Bucket S) hr (by decide) pass0 (pa_cons pe_int (pa_cons pe_int (pa_cons pe_int pa_nil)))) (nomark _))) (pw_or1 (pt_cmpR (op_own (op_Bucket___le__ S) (fun _ _ => rfl) hr (by decide) pass0) (pv 9) (pe_mke (mke_Bucket S) hr (by decide) pass0 (pa_cons pe_int (pa_cons pe_int (pa_cons pe_int pa_nil)))) (nomark _))))) (pss_one (ps_ret pe_bl)) pss_nil)
    (pss_cons (ps_par (i := 10) (j := 11) (by rfl) nd rfl rfl (by decide) rfl rfl (pa_cons (pe_mke (mke_Bucket S) hr (by decide) pass0 (pa_cons (pe_op op_pow pe_int pe_int) (pa_cons pe_int (pa_cons pe_int pa_nil)))) (pa_cons (pe_mke (mke_Bucket S) hr (by decide) pass0 (pa_cons (pe_op op_sub (pe_op op_pow pe_int pe_int) pe_int) (pa_cons pe_int (pa_cons pe_int pa_nil)))) pa_nil)) (by rfl))
    (pss_one (ps_ret (pe_and (pe_cmpR (op_own (op_Bucket___le__ S) (fun _ _ => rfl) hr (by decide) pass0) (pv 11) (pv 10) (nomark _)) (pe_and (pe_not (pe_cmpR (op_own (op_Bucket___le__ S) (fun _ _ => rfl) hr (by decide) pass0) (pv 10) (pv 11) (nomark _))) (pe_and (pe_cmpR (op_own (op_Bucket___lt__ S) (fun _ _ => rfl) hr (by decide) pass0) (pe_mke (mke_Bucket S) hr (by decide) pass0 (pa_cons pe_int (pa_cons pe_int (pa_cons pe_int pa_nil)))) (pv 10) (nomark _)) (pe_one (pe_cmpR (op_own (op_Bucket___gt__ S) (fun _ _ => rfl) hr (by decide) pass0) (pe_mke (mke_Bucket S) hr (by decide) pass0 (pa_cons pe_int (pa_cons pe_int (pa_cons pe_int pa_nil)))) (pe_mke (mke_Bucket S) hr (by decide) pass0 (pa_cons pe_int (pa_cons pe_int (pa_cons pe_int pa_nil)))) (nomark _)))))))))))))), ?_⟩
    try dsimp only [cxOf_K]
    obtain ⟨a, ns, rfl, hS, hT, k⟩ := h
    refine go_start (σ' := [_, none, none, none, none, none, none, none, none, none, none, none, none, none]) rfl ?_
    walk_at "go"
    refine ⟨a, ns, rfl, hS, fun p H0 hP0 s0 np => ?_⟩
    have T0 : LamX.Tabs (T_law K) H0 := tabs_same (tabs_nil hT) s0
    walk_at "go"
    refine forRange (fun i σ' H' => Pen K H' p (i * 20) ∧ LamX.Tabs (T_law K) H' ∧ ∃ u2 u3 u4 u5 u6 u7 u8 u9 u10 u11 u12 u13, σ' = [some (.ref a), some (.ref p), u2, u3, u4, u5, u6, u7, u8, u9, u10, u11, u12, u13]) ⟨hP0, T0, none, none, none, none, none, none, none, none, none, none, none, none, rfl⟩ ?_ ?_
    · rintro i σ H1 hi ⟨P1, T1, u2, u3, u4, u5, u6, u7, u8, u9, u10, u11, u12, u13, rfl⟩
      walk_at "go"
      refine ⟨p, _, rfl, P1, by omega, fun one H2 b r e h1 n1 P2 k2 b1 b2 r1 r2 e1 e2 => ?_⟩
      have T2 := tabs_kp T1 k2 P1.lst
      have v1 : Bv b r e := ⟨by omega, by omega, by omega, by omega, by omega, by omega⟩
      have q1 := P2.ne_lst h1 (by rintro c x y z; cases z)
      walk_at "go"
      refine ⟨p, one, b, r, e, _, rfl, h1, ⟨b1, b2⟩, ⟨r1, r2⟩, ⟨e1, e2⟩, P2, by omega, fun oth H3 bo ro eo ho no P3 k3 vo => ?_⟩
      have T3 := tabs_kp T2 k3 P2.lst
      have h13 : L3 H3 one b r e := k3 _ _ h1 q1
      walk_at "go"
      refine ⟨p, one, b, r, e, _, rfl, h13, ⟨b1, b2⟩, ⟨r1, r2⟩, ⟨e1, e2⟩, P3, by omega, fun thi H4 bt rt et ht nt P4 k4 vt => ?_⟩
      have T4 := tabs_kp T3 k4 P3.lst
      have h14 : L3 H4 one b r e := k4 _ _ h13 q1
      have ho4 : L3 H4 oth bo ro eo := k4 _ _ ho (P3.ne_lst ho (by rintro c x y z; cases z))
      walk_at "go"
      intro t1 m1
      walk_at "go"
      intro t2 m2
      walk_at "go"
      intro t3 m3
      walk_at "go"
      intro t4 m4
      walk_at "go"
      intro t5 m5
      walk_at "go"
      intro l ml
      have x1 := upd_keep (o := .lst [.ref t1, .ref t2, .ref t3, .ref t4, .ref t5]) ml (upd_keep (o := .tup [.ref thi, .ref one]) m5 (upd_keep (o := .tup [.ref one, .ref one]) m4 (upd_keep (o := .tup [.ref oth, .ref thi]) m3 (upd_keep (o := .tup [.ref oth, .ref one]) m2 (upd_same (H := H4) (a := t1) (o := .tup [.ref one, .ref oth]))))))
      have x2 := upd_keep (o := .lst [.ref t1, .ref t2, .ref t3, .ref t4, .ref t5]) ml (upd_keep (o := .tup [.ref thi, .ref one]) m5 (upd_keep (o := .tup [.ref one, .ref one]) m4 (upd_keep (o := .tup [.ref oth, .ref thi]) m3 (upd_same (a := t2) (o := .tup [.ref oth, .ref one])))))
      have x3 := upd_keep (o := .lst [.ref t1, .ref t2, .ref t3, .ref t4, .ref t5]) ml (upd_keep (o := .tup [.ref thi, .ref one]) m5 (upd_keep (o := .tup [.ref one, .ref one]) m4 (upd_same (a := t3) (o := .tup [.ref oth, .ref thi]))))
      have x4 := upd_keep (o := .lst [.ref t1, .ref t2, .ref t3, .ref t4, .ref t5]) ml (upd_keep (o := .tup [.ref thi, .ref one]) m5 (upd_same (a := t4) (o := .tup [.ref one, .ref one])))
      have x5 := upd_keep (o := .lst [.ref t1, .ref t2, .ref t3, .ref t4, .ref t5]) ml (upd_same (a := t5) (o := .tup [.ref thi, .ref one]))
      have s49 := ((((Same.new (o := .tup [.ref one, .ref oth]) m1).trans (Same.new (o := .tup [.ref oth, .ref one]) m2)).trans (Same.new (o := .tup [.ref oth, .ref thi]) m3)).trans ((Same.new (o := .tup [.ref one, .ref one]) m4).trans (Same.new (o := .tup [.ref thi, .ref one]) m5))).trans (Same.new (o := .lst [.ref t1, .ref t2, .ref t3, .ref t4, .ref t5]) ml)
      have xl := upd_here (o := .lst [.ref t1, .ref t2, .ref t3, .ref t4, .ref t5]) ml
      generalize upd _ l (.lst [.ref t1, .ref t2, .ref t3, .ref t4, .ref t5]) = H9 at x1 x2 x3 x4 x5 s49 xl ⊢
      have h19 : L3 H9 one b r e := s49 _ _ h14
      have ho9 : L3 H9 oth bo ro eo := s49 _ _ ho4
      have ht9 : L3 H9 thi bt rt et := s49 _ _ ht
      refine go_listIx (xs := [.ref t1, .ref t2, .ref t3, .ref t4, .ref t5]) (SqL.of xl) ?_
      refine forList (xs := [.ref t1, .ref t2, .ref t3, .ref t4, .ref t5]) (fun j σ' H' => Same H9 H' ∧ ∃ u w, σ' = [some (.ref a), some (.ref p), some (.int (0 + i)), some (.ref one), some (.ref oth), some (.ref thi), u, w, u8, u9, u10, u11, u12, u13]) ⟨Same.refl _, _, _, rfl⟩ (fun j σ' H' _ q => q.1.seq (SqL.of xl)) ?_ ?_
      · rintro j v σ' H' hv ⟨s, u, w, rfl⟩
        have pair : ∃ t x y bx rx ex by_ ry ey, v = .ref t ∧ H9 t = some (.tup [.ref x, .ref y]) ∧ L3 H9 x bx rx ex ∧ L3 H9 y by_ ry ey ∧ Bv bx rx ex ∧ Bv by_ ry ey := by
          have hv' := List.mem_of_getElem? hv
          simp only [List.mem_cons, List.not_mem_nil, or_false] at hv'
          rcases hv' with rfl | rfl | rfl | rfl | rfl
          · exact ⟨_, _, _, _, _, _, _, _, _, rfl, x1, h19, ho9, v1, vo⟩
          · exact ⟨_, _, _, _, _, _, _, _, _, rfl, x2, ho9, h19, vo, v1⟩
          · exact ⟨_, _, _, _, _, _, _, _, _, rfl, x3, ho9, ht9, vo, vt⟩
          · exact ⟨_, _, _, _, _, _, _, _, _, rfl, x4, h19, h19, v1, v1⟩
          · exact ⟨_, _, _, _, _, _, _, _, _, rfl, x5, ht9, h19, vt, v1⟩
        obtain ⟨t, x, y, bx, rx, ex, by_, ry, ey, rfl, hx, l1, l2, w1, w2⟩ := pair
        have hx' := s _ _ hx
        walk_at "go"
        refine ⟨x, y, bx, rx, ex, by_, ry, ey, rfl, s _ _ l1, s _ _ l2, w1, w2, fun H'' s'' => ?_⟩
        walk_at "go"
        exact ⟨s.trans s'', _, _, rfl⟩
      · rintro σ' H10 ⟨s, u, w, rfl⟩
        have h10 : L3 H10 one b r e := s _ _ h19
        have s410 := s49.trans s
        have P10 := P4.same s410
        have T10 := tabs_same T4 s410
        unfold L3 at h10
        walk_at "go"
        refine bk_make v1 fun made H11 nm s11 hm => ?_
        have h11 := s11 _ _ h10
        have P11 := P10.same s11
        have T11 := tabs_same T10 s11
        obtain ⟨dm, hm⟩ := hm
        walk_at "go"
        intro e1' n1'
        walk_at "go"
        intro e2' n2'
        walk_at "go"
        intro e3' n3'
        walk_at "go"
        intro e4' n4'
        walk_at "go"
        have e1k := (upd_keep (o := .dK []) n3' (upd_keep (o := .tup [.int 2, .int 1, .int 6]) n2' (upd_here (o := .lst []) n1')))
        have e2k := upd_keep (o := .dK []) n3' (upd_here (o := .tup [.int 2, .int 1, .int 6]) n2')
        have e3k := upd_here (o := .dK []) n3'
        have hmk := upd_keep (o := .dK []) n3' (upd_keep (o := .tup [.int 2, .int 1, .int 6]) n2' (upd_keep (o := .lst []) n1' hm))
        have hok := upd_keep (o := .dK []) n3' (upd_keep (o := .tup [.int 2, .int 1, .int 6]) n2' (upd_keep (o := .lst []) n1' h11))
        have P14 := ((P11.new (o := .lst []) n1').new (o := .tup [.int 2, .int 1, .int 6]) n2').new (o := .dK []) n3'
        have T14 : LamX.Tabs (T_law K) (upd (upd (upd H11 e1' (.lst [])) e2' (.tup [.int 2, .int 1, .int 6])) e3' (.dK [])) := tabs_same (tabs_same (tabs_same T11 (Same.new n1')) (Same.new n2')) (Same.new n3')
        generalize upd (upd (upd H11 e1' (.lst [])) e2' (.tup [.int 2, .int 1, .int 6])) e3' (.dK []) = H14 at n4' e1k e2k e3k hmk hok P14 T14 ⊢
        refine pick_new P14 (by omega) n4' (by intro z; cases z) (Nat.le_of_ble_eq_true rfl) fun v H16 hv P16 k16 _ => ?_
        obtain ⟨n, hodd⟩ : ∃ n, OddV H16 v n := by
          simp only [List.mem_cons, List.not_mem_nil, or_false] at hv
          rcases hv with rfl | rfl | rfl | rfl | rfl | rfl | rfl | rfl
          · exact ⟨_, .non⟩
          · exact ⟨_, .int _⟩
          · exact ⟨_, .bl _⟩
          · exact ⟨_, .str _⟩
          · exact ⟨_, .lst (k16 _ _ e1k (P14.ne_lst e1k (by rintro c b g z; cases z)))⟩
          · exact ⟨_, .tup (k16 _ _ e2k fun z => by obtain ⟨xs, q⟩ := P14.lst; rw [← z, e2k] at q; cases q)⟩
          · exact ⟨_, .dK (k16 _ _ e3k fun z => by obtain ⟨xs, q⟩ := P14.lst; rw [← z, e3k] at q; cases q)⟩
          · exact ⟨_, .lst (k16 _ _ hok (P14.ne_lst hok (by rintro c b g z; cases z)))⟩
        have lap0 : Lap K p made dm b r e v n (T_law K) _ H16 := ⟨P16, tabs_kp T14 k16 P14.lst, k16 _ _ hmk (P14.ne_ins hmk), hodd⟩
        walk_at "go"
        refine heard_go S lap0.tabs rfl rfl lap0.made lap0.odd fun A1 xa1 ta1 => ?_
        have lb1 := lap0.ext xa1 ta1
        walk_at "go"
        intro hl nhl
        have lap1 := lb1.same (Same.new (o := .lst [.str "other"]) nhl)
        have ll1 := upd_here (o := .lst [.str "other"]) nhl
        walk_at "go"
        refine heard_go S lap1.tabs rfl rfl lap1.made lap1.odd fun A2 xa2 ta2 => ?_
        have lb2 := lap1.ext xa2 ta2
        have ll2 := xa2 _ _ ll1 (fun _ z => by cases z)
        walk_at "go"
        refine go_appl (ys := [.str "other", .str "other"]) ll2 (by decide) rfl ?_
        have lap2 := lb2.put (ys := [.str "other", .str "other"]) ll2 (by rintro c b g z; cases z) (by rintro (_ | ⟨n, ns⟩) z <;> cases z)
        have ll2 := upd_same (H := A2) (a := hl) (o := .lst [.str "other", .str "other"])
        walk_at "go"
        refine heard_go S lap2.tabs rfl rfl lap2.made lap2.odd fun A3 xa3 ta3 => ?_
        have lb3 := lap2.ext xa3 ta3
        have ll3 := xa3 _ _ ll2 (fun _ z => by cases z)
        walk_at "go"
        refine go_appl (ys := [.str "other", .str "other", .str "other"]) ll3 (by decide) rfl ?_
        have lap3 := lb3.put (ys := [.str "other", .str "other", .str "other"]) ll3 (by rintro c b g z; cases z) (by rintro (_ | ⟨n, ns⟩) z <;> cases z)
        have ll3 := upd_same (H := A3) (a := hl) (o := .lst [.str "other", .str "other", .str "other"])
        walk_at "go"
        refine heard_go S lap3.tabs rfl rfl lap3.made lap3.odd fun A4 xa4 ta4 => ?_
        have lb4 := lap3.ext xa4 ta4
        have ll4 := xa4 _ _ ll3 (fun _ z => by cases z)
        walk_at "go"
        refine go_appl (ys := [.str "other", .str "other", .str "other", .str "other"]) ll4 (by decide) rfl ?_
        have lap4 := lb4.put (ys := [.str "other", .str "other", .str "other", .str "other"]) ll4 (by rintro c b g z; cases z) (by rintro (_ | ⟨n, ns⟩) z <;> cases z)
        have ll4 := upd_same (H := A4) (a := hl) (o := .lst [.str "other", .str "other", .str "other", .str "other"])
        walk_at "go"
        intro g1 n1g
        have lap5 := lap4.same (Same.new (o := .lst [.str "other"]) n1g)
        have ll5 := upd_keep (o := .lst [.str "other"]) n1g ll4
        walk_at "go"
        refine go_rep (ys := [.str "other", .str "other", .str "other", .str "other"]) upd_same (by decide) (by decide) (by decide) rfl ?_
        intro g2 n2g
        have lap6 := lap5.same (Same.new (o := .lst [.str "other", .str "other", .str "other", .str "other"]) n2g)
        have ll6 := upd_keep (o := .lst [.str "other", .str "other", .str "other", .str "other"]) n2g ll5
        refine go_neStrs (ns := ["other", "other", "other", "other"]) (ms := ["other", "other", "other", "other"]) (SqL.of ll6) (SqL.of upd_same) (by decide +kernel) (by decide +kernel) ?_
        walk_at "go"
        refine go_ndec (fun z => absurd rfl z) (fun _ => ?_)
        walk_at "go"
        refine go_own lap6.made lap6.odd.ty (odd_facts S lap6.odd).1 ?_
        refine ⟨made, v, _, rfl, lap6.odd.ty, (odd_facts S lap6.odd).2, ?_⟩
        walk_at "go"
        exact ⟨lap6.pen.mono (by omega), lap6.tabs, _, _, _, _, _, _, _, _, _, _, _, _, rfl⟩
    · rintro σ H1 ⟨P1, T1, u2, u3, u4, u5, u6, u7, u8, u9, u10, u11, u12, u13, rfl⟩
      walk_at "go"
      have w1 : Bv 60 500 1000 := by decide
      have w2 : Bv 558 499 998 := by decide
      have w3 : Bv 557 499 998 := by decide
      have w4 : Bv 1000000 1000 1000 := by decide
      have w5 : Bv (999001) 1 1 := by decide
      have w6 : Bv 1 1 1000 := by decide
      have w7 : Bv 1 1000 1 := by decide
      have w8 : Bv 1 999 1 := by decide
      refine bk_make w1 fun x1 I1 nx1 t1 hx1 => ?_
      walk_at "go"
      refine bk_make w2 fun x2 I2 nx2 t2 hx2 => ?_
      obtain ⟨d1, hx1⟩ := hx1
      have h12 := t2 _ _ hx1
      refine go_own h12 (tyIns (in_Bucket S) hx2.choose_spec) (fr_Bucket_o_Bucket S) ?_
      refine ⟨x1, x2, _, _, _, _, _, _, rfl, ⟨_, h12⟩, hx2, w1, w2, fun I3 t3 => ?_⟩
      have h13 := t3 _ _ h12
      rw [at1]
      walk_at "go"
      refine bk_make w3 fun x3 I4 nx3 t4 hx3 => ?_
      have h14 := t4 _ _ h13
      refine go_own h14 (tyIns (in_Bucket S) hx3.choose_spec) (fr_Bucket_o_Bucket S) ?_
      refine ⟨x1, x3, _, _, _, _, _, _, rfl, ⟨_, h14⟩, hx3, w1, w3, fun I5 t5 => ?_⟩
      rw [at2]
      walk_at "go"
      refine bk_make w4 fun far I6 nfar t6 hfar => ?_
      walk_at "go"
      refine bk_make w5 fun near I7 nnear t7 hnear => ?_
      walk_at "go"
      obtain ⟨df, hfar⟩ := hfar
      obtain ⟨dn, hnear⟩ := hnear
      have hf7 := t7 _ _ hfar
      refine go_own hnear (tyIns (in_Bucket S) hf7) (fr_Bucket_o_Bucket S) ?_
      refine ⟨near, far, _, _, _, _, _, _, rfl, ⟨_, hnear⟩, ⟨_, hf7⟩, w5, w4, fun I8 t8 => ?_⟩
      have hf8 := t8 _ _ hf7
      have hn8 := t8 _ _ hnear
      rw [at3]
      walk_at "go"
      refine go_own hf8 (tyIns (in_Bucket S) hn8) (fr_Bucket_o_Bucket S) ?_
      refine ⟨far, near, _, _, _, _, _, _, rfl, ⟨_, hf8⟩, ⟨_, hn8⟩, w4, w5, fun I9 t9 => ?_⟩
      have hf9 := t9 _ _ hf8
      rw [at4]
      walk_at "go"
      refine bk_make w6 fun x6 J1 nx6 v1 hx6 => ?_
      obtain ⟨d6, hx6⟩ := hx6
      have hfa := v1 _ _ hf9
      walk_at "go"
      refine go_own hx6 (tyIns (in_Bucket S) hfa) (fr_Bucket_o_Bucket S) ?_
      refine ⟨x6, far, _, _, _, _, _, _, rfl, ⟨_, hx6⟩, ⟨_, hfa⟩, w6, w4, fun J2 v2 => ?_⟩
      rw [at5]
      walk_at "go"
      refine bk_make w7 fun x7 J3 nx7 v3 hx7 => ?_
      obtain ⟨d7, hx7⟩ := hx7
      walk_at "go"
      refine bk_make w8 fun x8 J4 nx8 v4 hx8 => ?_
      obtain ⟨d8, hx8⟩ := hx8
      have hx7' := v4 _ _ hx7
      walk_at "go"
      refine go_own hx7' (tyIns (in_Bucket S) hx8) (fr_Bucket_o_Bucket S) ?_
      refine ⟨x7, x8, _, _, _, _, _, _, rfl, ⟨_, hx7'⟩, ⟨_, hx8⟩, w7, w8, fun J5 v5 => ?_⟩
      rw [at6]
      exact k J5
end
section
open PySem.W
def loose : List PySem.Str := ([Str.ofString "_wall", Str.ofString "CreditError", Str.ofString "BadInput", Str.ofString "Refused", Str.ofString "NoAnswer", Str.ofString "BadArrivals", Str.ofString "BadBucket", Str.ofString "BadLengths", Str.ofString "BadNumber", Str.ofString "BadText", Str.ofString "TooMany", Str.ofString "NoSum", Str.ofString "MOST_MOMENT", Str.ofString "MOST_PACKETS", Str.ofString "is_integer", Str.ofString "is_count", Str.ofString "is_within", Str.ofString "check_count", Str.ofString "check_packets", Str.ofString "least_sums", Str.ofString "is_figures", Str.ofString "tells_number", Str.ofString "check_text", Str.ofString "Words", Str.ofString "words_of", Str.ofString "Lengths", Str.ofString "divisor_of", Str.ofString "is_length", Str.ofString "check_lengths", Str.ofString "take_numbers", Str.ofString "Bucket", Str.ofString "bound_of", Str.ofString "check_other", Str.ofString "is_at_most", Str.ofString "check_comings"] : List PySem.Str) ++ ([Str.ofString "is_coming", Str.ofString "_law_pen", Str.ofString "_law_draw", Str.ofString "_law_pick", Str.ofString "_law_is_below", Str.ofString "_law_parts", Str.ofString "_law_near", Str.ofString "_law_heard", Str.ofString "_law_pair_right"] : List PySem.Str)
abbrev R : OpenRow := OpenLaw.row PySem.Challenge.rw_creditturns_k53_buckets_compared
abbrev q : Program := view R.prog [0, 52]
abbrev hk : Hook := hookC 4 sys
def ob (s : SharedT) : AlC := obsC 4 sys (HandSHeadRun.getT s)
theorem ob_eq (s : SharedT) : ob s = hk.obs s.abs := obsC_eq (HandSHeadRun.getT_eq s)
theorem run (w : World) : HandSHeadRun.RunEqI R q hk ob 20000 loose w := by
  unfold HandSHeadRun.RunEqI
  kernel_rfl
end
end K53
open PySem PySem.W PySem.Calls PyProof.Rows
theorem PySem.Challenge.cw_creditturns_k53_buckets_compared_holds : PySem.Challenge.rw_creditturns_k53_buckets_compared.Holds := by
  w_on; o_law
  refine HandSHeadRun.head_imp (r := OpenLaw.row PySem.Challenge.rw_creditturns_k53_buckets_compared) (q := K53.q) (H := K53.hk) (ob := K53.ob) (M := 20000) (loose := K53.loose) (d := HandSHeadRun.topDef (OpenLaw.row PySem.Challenge.rw_creditturns_k53_buckets_compared).prog 52) (kwd := []) K53.ob_eq
    K53.run (by kernel_rfl) (by kernel_rfl) (by kernel_rfl) (by rfl) (by first | assumption | decide +kernel) (by decide +kernel) ⟨rfl, rfl, rfl, rfl, rfl, by decide +kernel⟩ ?hw ?hc
  case hw => w_witness2
  case hc =>
    refine CT.walk_ofGE (l := PySem.Challenge.rw_creditturns_k53_buckets_compared) (n := 63) (k := 7) (x := "_law_script") (CX := fun _ => L2.CX0) rfl (by decide) (by kernel_rfl) ⟨rfl, by decide, by decide⟩ ?F (fun _ _ _ _ _ z => z)
    intro w mg fa h Y G hmg0
    obtain ⟨K, KX, c⟩ := Y
    have S : CT.HD K53.sys K mg := CT.HD.of KX G c
    have hmg : mg ("law" : PySem.Str) = some (.ref fa) := by
      have e : (HandSHeadRun.topDef (OpenLaw.row PySem.Challenge.rw_creditturns_k53_buckets_compared).prog 52).name = ("law" : PySem.Str) := by kernel_rfl
      rw [← e]
      exact hmg0
    have e := hmg.symm.trans (K53.g_law S)
    cases e
    obtain ⟨t1, t2, t3⟩ := CT.tabs_of KX c
    refine ⟨K, KX, CT.fdAt K (He.ga K "law"), _, K53.spLaw K, t1, t2, t3, fun s v => (L2.FunD.bindsA (ps := ["_law_script"]) (K53.d_law S) (fun _ _ _ _ _ _ us hl => match us, hl with | [_], _ => rfl)) s [v] rfl, fun H a ns hl _ hH hS => ⟨a, ns, rfl, hS, hH _ (List.mem_singleton.mpr rfl), fun _ => rfl⟩, fun base _ _ TB => (K53.law_ok S (TB _ (List.mem_singleton.mpr rfl)))⟩
