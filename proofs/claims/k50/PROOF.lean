import PyProof.Rows.All
import Wide.All
import OpenK.AllK
import Wide.FinOn
import HandS.ForMost
import HandS.ForExc
import HandS.IsInst
import HandS.ExcInit
import HandS.Lambda
import HandS.Property
import HandS.ClsMeth
import HandS.Wide
import HandS.WideMore
import HandS.Style
import HandS.Flow
import HandS.OwnEq
import HandS.ExcIs
import HandS.ExcField
import HandS.ExcValue
import HandS.MakeKw
import HandS.Defaults
import HandS.Star
import HandS.EndTab
import HandS.Gcd
import HandS.StrMore
import HandS.StrSplit
import HandS.FStr
import HandS.Deep
import HandS.DeepEq
import HandS.SetKeys
import HandS.DictComp
import HandS.Conv
import HandS.Codes
import HandS.Zip
import HandS.SortInts
import HandS.TupAny
import HandS.Evl
import HandS.Steps
import KE.KExcIs
import KE.KOpsOwn
import HandS.Walk
import HandS.Small
import HandS.SetFor
import HandS.Strs
import KE.KStar
import KE.IntTextText
import KE.KCallOwn
import HandS.MakeKwOnly
import HandS.Head3
import HandS.HeadHook4
import HandS.HeadWalk
import PySem.Challenge.RW_creditturns_k50_buckets_made
set_option Elab.async false
set_option linter.all false
set_option maxRecDepth 100000
set_option maxHeartbeats 4000000
namespace CT
open PySem PySem.Spec PyProof.Rows L2
abbrev St := L2.St

/-! ### caught exceptions that outlive their clause -/
/-- a caught exception stands at a: its class, the address of its own dict -/
def ExK (cls : Value) (d : Option Addr) (a : Addr) : HO :=
  .ext fun h => ∃ (oe : Obj) (vs : Array Value), h.get? a = some oe ∧ Zc cls d oe ∧ oe.data = .fields vs
theorem exK_ok {P : Program} {w : World} {H : Hp} {h : Heap} {a : Addr} {cls : Value} {d : Option Addr} {oe : Obj} {vs : Array Value}
    (e : h.get? a = some oe) (z : Zc cls d oe) (dd : oe.data = .fields vs) : ObjOk P w H h a (ExK cls d a) :=
  ⟨⟨oe, vs, e, z, dd⟩, ⟨oe, e⟩, fun _ _ ⟨o, v, q, r⟩ k => ⟨o, v, k o q, r⟩⟩
theorem exK_at {P : Program} {w : World} {H : Hp} {h : Heap} {a : Addr} {cls : Value} {d : Option Addr} (hok : HOk P w H h) (e : H a = some (ExK cls d a)) :
    ∃ (oe : Obj) (vs : Array Value), h.get? a = some oe ∧ Zc cls d oe ∧ oe.data = .fields vs := by
  have x := hok a _ e
  have x' : ObjOk P w H h a (.ext fun h => ∃ (oe : Obj) (vs : Array Value), h.get? a = some oe ∧ Zc cls d oe ∧ oe.data = .fields vs) := x
  exact x'.1

/-- an object that is there, made since the entry, is tracked from now on -/
theorem track {X : Cx} {pins : List (Addr × Obj)} {σ : St} {H : Hp} {s : Shared} {a : Addr} {o : HO} (I : Inv X pins σ H s) (hn : H a = none)
    (n0 : X.s_0.heap.get? a = none) (nL : a ≠ X.env.locals) (np : ∀ p ∈ X.pn ++ pins, p.1 ≠ a) (nc : ∀ x c, X.env.cells.lookup x = some c → c ≠ a)
    (new : ObjOk X.prog X.w (upd H a o) s.heap a o) : Inv X pins σ (upd H a o) s := by
  have ne0 : ∀ b u, X.s_0.heap.get? b = some u → b ≠ a := fun b u e z => by
    rw [z, n0] at e
    cases e
  refine ⟨I.ok, I.os, I.bare, ⟨I.base.keep, I.base.slot, fun b u e n hx => ?_, I.base.there, fun b xs e => ?_, fun b u v e => ?_, fun b ps e => ?_⟩, I.loc, I.cell, ?_, fun x c e => ?_, fun p hp => ?_, I.hok.laidN (fun _ _ q => q) hn new, I.len⟩
  · exact (upd_ne (ne0 b u e)).trans (I.base.free b u e n hx)
  · have q := I.base.tups b xs e
    rw [upd_ne (ne_of_none q hn)]
    exact q
  · have q := I.base.frzs b u v e
    rw [upd_ne (ne_of_none q hn)]
    exact q
  · obtain ⟨m, q⟩ := I.base.tbls b ps e
    exact ⟨m, by rw [upd_ne (ne_of_none q hn)]; exact q⟩
  · rw [upd_ne (Ne.symm nL)]
    exact I.free
  · rw [upd_ne (nc x c e)]
    exact I.freeC x c e
  · obtain ⟨h1, h2, h3⟩ := I.pin p hp
    exact ⟨h1, by rw [upd_ne (np p hp)]; exact h2, h3⟩

/-- what the clause 'except x as n' wishes, where the exception stays tracked behind the suite -/
def wKeep (K : PySem.W.Frag) (c : Value) (i : Nat) (ts : Addr → Value → Option Addr → TS) (Wout : WX) (D : Ends) : WX := fun cls d σ H =>
  ∃ b, PySem.W.exmOne K cls c = some b ∧
    (b = true → ∀ a, H a = none → ts a cls d
      { nx := fun σ' H' => D.nx (σ'.set i none) (upd H' a (ExK cls d a)), rt := fun v H' => D.rt v (upd H' a (ExK cls d a)),
        bk := fun σ' H' => D.bk (σ'.set i none) (upd H' a (ExK cls d a)), ct := fun σ' H' => D.ct (σ'.set i none) (upd H' a (ExK cls d a)) }
      (σ.set i (some (.ref a))) H) ∧
    (b = false → Wout cls d σ H)

/-- an address that no frame, pin, cell or older object has -/
structure Apart (X : Cx) (pins : List (Addr × Obj)) (a : Addr) : Prop where
  loc : a ≠ X.env.locals
  fra : a ∉ X.fs
  old : X.s_0.heap.get? a = none
  pin : ∀ p ∈ X.pn ++ pins, p.1 ≠ a
  cel : ∀ y k, X.env.cells.lookup y = some k → k ≠ a

/-- the exception a (class cls, dict d) has come down before a clause of X; g: the state without it, B: its ground -/
structure Fallen (X : Cx) (B : Heap) (g : Shared) (pins : List (Addr × Obj)) (σ : St) (H : Hp) (a : Addr) (cls : Value) (d : Option Addr) (s : Shared) : Prop where
  frm : X.stack = X.env :: X.outer
  loc : X.env.frame = some X.env.locals
  inv : Inv X pins σ H g
  gnd : ∀ b o, g.heap.get? b = some o → b ∉ frs X.stack → B.get? b = some o
  upt : g.heap.UpToSlots s.heap
  oss : s.os = g.os
  gns : AllBare s.gens
  fly : HandSPX.FlyingZ B X.stack a (Zc cls d) s.heap
  new : H a = none
namespace Fallen
variable {X : Cx} {B : Heap} {g s : Shared} {pins : List (Addr × Obj)} {σ : St} {H : Hp} {a : Addr} {cls : Value} {d : Option Addr}
theorem now (F : Fallen X B g pins σ H a cls d s) : Inv X pins σ H s := F.inv.landed F.gnd F.fly.1 F.upt F.oss F.gns
theorem to (F : Fallen X B g pins σ H a cls d s) {h : Heap} (fly : HandSPX.FlyingZ B X.stack a (Zc cls d) h) (u : s.heap.UpToSlots h) :
    Fallen X B g pins σ H a cls d { s with heap := h } :=
  { F with upt := F.upt.trans u, oss := F.oss, gns := F.gns, fly := fly }
/-- frames hold no fields -/
theorem out (F : Fallen X B g pins σ H a cls d s) : a ∉ frs X.stack := by
  intro inn
  obtain ⟨o, vs, there, -, dd⟩ := F.fly.there
  rcases F.fly.2.2.1.mem inn with ⟨_, q, there', no⟩
  obtain rfl : o = q := Option.some.inj (there.symm.trans there')
  exact no vs dd
/-- what stands without the exception stands elsewhere -/
theorem els (F : Fallen X B g pins σ H a cls d s) {b : Addr} {o : Obj} (e : g.heap.get? b = some o) : b ≠ a := by
  rintro rfl
  have q := (F.gnd b o e F.out).symm.trans F.fly.2.1
  exact nomatch q
theorem apart (F : Fallen X B g pins σ H a cls d s) (hex : X.ex = []) : Apart X pins a where
  loc := by
    rintro rfl
    refine F.out ?_
    rw [F.frm]
    exact List.mem_filterMap.mpr ⟨X.env, List.mem_cons.mpr (.inl rfl), F.loc⟩
  fra := fun inn => by
    rcases List.mem_filterMap.mp inn with ⟨en, at', q⟩
    refine F.out ?_
    rw [F.frm]
    exact List.mem_filterMap.mpr ⟨en, List.mem_cons.mpr (.inr at'), q⟩
  old := Option.eq_none_iff_forall_ne_some.mpr fun o e => by
    obtain ⟨o', q⟩ := F.inv.base.there a o e (hex ▸ List.not_mem_nil)
    exact F.els q rfl
  pin := fun p at' => F.els (F.inv.pin p at').1
  cel := fun y k e => by
    obtain ⟨_, _, q, _⟩ := F.inv.cell y k e
    exact F.els q
/-- the suite of the clause begins -/
theorem suit (F : Fallen X B g pins σ H a cls d s) (ap : Apart X pins a) : ∃ oe vs, s.heap.get? a = some oe ∧ Zc cls d oe ∧ oe.data = .fields vs ∧
    Inv (X.suite a ((a, oe) :: (X.pn ++ pins))) [] σ H s := by
  obtain ⟨oe, vs, e, z, dd⟩ := F.fly.there
  exact ⟨oe, vs, e, z, dd, F.now.suite e dd F.new ap.loc ap.fra⟩
/-- the clause's class is read, and the exception is held against it -/
theorem asked (F : Fallen X B g pins σ H a cls d s) (ap : Apart X pins a) {x : Str} {c : Value} {np : Pos} {yes : Bool} {Q : Bool → Shared → Prop} {E : Value → Shared → Prop}
    (hc : Names X x c) (m : PySem.W.exmOne X.K cls c = some yes) (q : Q yes s) :
    wpAny (model X.prog X.w) (X.A.mark (some (.ref a))) (eval (.Name x np) X.env) (fun k s1 => wpAny (model X.prog X.w) (X.A.mark (some (.ref a))) (excMatches (.ref a) k) Q E s1) E s := by
  obtain ⟨oe, vs, e, z, _, S⟩ := F.suit ap
  have kind : PySem.W.Looks (model X.prog X.w) s.heap (typeOf (.ref a)) cls := fun _ _ _ _ k r => wpAny_typeOf_ref (k _ _ e) (z.1.symm ▸ r)
  have last := (PySem.W.exm_one (M := model X.prog X.w) F.now.kIn kind m).here (A := X.A.mark (some (.ref a))) (E := E) q
  rcases hc with ⟨hg, nd, own | ⟨own, blt, nn⟩⟩
  · exact ld_glob (X := X.suite a ((a, oe) :: (X.pn ++ pins))) S hg own last nd
  · exact ld_blt (X := X.suite a ((a, oe) :: (X.pn ++ pins))) S hg own blt last nn nd
/-- no clause takes it: on it flies -/
theorem onward (F : Fallen X B g pins σ H a cls d s) {Wout : WX} {Q : Flow → Shared → Prop} (tk : Takes X Wout) (w : Wout cls d σ H) :
    wpAny (model X.prog X.w) X.A (handleBy (.ref a) X.env []) Q X.xe s := by
  have rise : wpAny (model X.prog X.w) X.A (setFlight (.ref a) X.env.frame) (fun _ s1 => wpAny (model X.prog X.w) X.A (throw (.ref a) : Sem Flow) Q X.xe s1) X.xe s := by
    rw [F.loc]
    exact HandSPX.setFlight_upZ F.fly fun h1 held u1 => wpAny_throw (tk _ _
      ⟨a, B, g, pins, σ, H, cls, d, rfl, F.inv, F.gnd, F.upt.trans u1, .inr (.inr held), F.new, F.oss, F.gns, w⟩)
  obtain ⟨oe, vs, T, _, _, e, _, dd, at1, _⟩ := F.fly.2.2.2
  refine wpAny_handleBy_nil ?_
  unfold PySem.passOn
  have some1 : ((Value.ref T == Value.none) = true) = False := by simp
  refine wpAny_bind (wpAny_field e dd at1 ?_)
  simp only [some1, if_false]
  first
    | exact wpAny_bind rise
    | exact wpAny_bind (wpAny_pure (wpAny_bind rise))
end Fallen

section
variable {X : Cx} {x n : Str} {c : Value} {i : Nat} {body suite : List Stmt} {b0 : Stmt} {np pos pos' : Pos} {tb : WX → TS}
  {ts : Addr → Value → Option Addr → TS} {Wout : WX}
theorem ps_try_keep (hs : X.stack = X.env :: X.outer) (hf : X.env.frame = some X.env.locals) (hex : X.ex = []) (hN : X.N.Nodup) (hi : X.N[i]? = some n)
    (hln : X.env.kindOf n = some .local) (hc : Names X x c) (tk : Takes X Wout)
    (hb : ∀ (W : WX) (pn : List (Addr × Obj)) (xe : Value → Shared → Prop), Takes (X.tr pn xe) W →
      PassesOwn (model X.prog X.w) X.A X.env xe → PSs (X.tr pn xe) body (tb W))
    (hsu : ∀ (a : Addr) (oe : Obj) (cls : Value) (d : Option Addr) (pn : List (Addr × Obj)), Zc cls d oe → (∃ vs, oe.data = .fields vs) →
      PSs (X.suite a ((a, oe) :: pn)) (b0 :: suite) (ts a cls d)) :
    PS X (.Try body [.ExceptHandler (some (.Name x np)) (some n) (b0 :: suite) pos'] [] [] pos) (fun D σ H => tb (wKeep X.K c i ts Wout D) D σ H) := by
  constructor
  intro pins s0 σ0 H0 D I0 begin0
  -- the clause, before an exception that has come down
  have clause : ∀ {B g σ H a cls d s}, Fallen X B g pins σ H a cls d s → wKeep X.K c i ts Wout D cls d σ H →
      wpAny (model X.prog X.w) X.A (handleBy (.ref a) X.env [.ExceptHandler (some (.Name x np)) (some n) (b0 :: suite) pos']) (SP X pins D) X.xe s := by
    intro B g σ H a cls d s F ⟨yes, mt, isIt, isnt⟩
    have ap := F.apart hex
    refine wpAny_handleBy_cons (codeAny_handlers_test (F.asked ap hc mt ?_)) nofun
    cases yes
    · exact F.onward tk (isnt rfl)
    refine codeAny_handlers_suite_as (HandSPX.lands_againZ F.fly fun h1 fly1 u1 => ?_)
    obtain ⟨oe, vs, _, z, dd, S⟩ := (F.to fly1 u1).suit ap
    refine store_ok (X := X.suite a ((a, oe) :: (X.pn ++ pins))) (v := .ref a) S hN hi (.inl hln) rfl (fun s2 S2 => ?_) (.inr hln)
    -- behind the suite: the name goes, the exception is tracked
    have close : ∀ {σ' H' s'} {Q : Shared → Prop}, Inv (X.suite a ((a, oe) :: (X.pn ++ pins))) [] σ' H' s' →
        (∀ s'', Inv X pins (σ'.set i none) (upd H' a (ExK cls d a)) s'' → Q s'') →
        wpAny (model X.prog X.w) X.A (do bindName X.env n .none; unbindBehindTheSuite X.env n pos') (fun _ s'' => Q s'') X.xe s' := by
      intro σ' H' s' Q S' q
      have p0 := S'.pin (a, oe) (List.mem_append.mpr (.inl (List.mem_cons.mpr (.inl rfl))))
      exact gone_ok (track (S'.unsuite I0.ok) p0.2.1 ap.old ap.loc ap.pin ap.cel (exK_ok p0.1 z dd)) hN hi hln q
    refine wpAny_mono ((hsu a oe cls d _ z ⟨vs, dd⟩).run [] s2 _ H _ S2 (isIt rfl a F.new)) (fun f s3 end3 => ?_) (fun _ _ no => no.elim)
    cases f <;> first
      | (obtain ⟨_, _, S3, q⟩ := end3; exact close S3 fun _ J => ⟨_, _, J, q⟩)
      | (obtain ⟨_, _, _, S3, r, q⟩ := end3; exact close S3 fun _ J => ⟨_, _, _, J, r, q⟩)
  -- an exception of the body comes down
  have caught : Takes (X.tr (X.pn ++ pins) fun u s => wpAny (model X.prog X.w) X.A (noteFrame u X.env) (fun _ s1 => wpAny (model X.prog X.w) X.A (setFlight u none) (fun _ s2 =>
      wpAny (model X.prog X.w) X.A (handleBy u X.env [.ExceptHandler (some (.Name x np)) (some n) (b0 :: suite) pos']) (SP X pins D) X.xe s2) X.xe s1) X.xe s)
      (wKeep X.K c i ts Wout D) := by
    rintro u s ⟨a, B, g, pins', σ, H, cls, d, rfl, J, gnd, u0, sky, new, oss, gns, w⟩
    have sky1 : Sky B (X.env :: X.outer) a (Zc cls d) X.env.locals s.heap := hs ▸ sky
    refine Sky.land (A := X.A) Zc.steady (I0.ok.frames.trans (congrArg some hs)) hf sky1 fun h1 fly1 u1 => ?_
    exact clause { frm := hs, loc := hf, inv := J.ofTry I0.ok, gnd := gnd, upt := u0.trans u1, oss := oss, gns := gns, fly := hs ▸ fly1, new := new } w
  refine wpAny_Try_except (wpAny_mono ((hb _ _ _ caught PassesOwn.looking).run [] s0 σ0 H0 D (I0.toTry _) begin0) (fun f s1 end1 => ?_) fun _ _ q => q)
  cases f with
  | next => exact end1.elim fun σ1 h => h.elim fun H1 ⟨J, q⟩ => wpAny_execs_nil ⟨σ1, H1, J.ofTry I0.ok, q⟩
  | brk => exact end1.elim fun σ1 h => h.elim fun H1 ⟨J, q⟩ => ⟨σ1, H1, J.ofTry I0.ok, q⟩
  | cont => exact end1.elim fun σ1 h => h.elim fun H1 ⟨J, q⟩ => ⟨σ1, H1, J.ofTry I0.ok, q⟩
  | ret u => exact end1.elim fun v h => h.elim fun σ1 h => h.elim fun H1 ⟨J, r, q⟩ => ⟨v, σ1, H1, J.ofTry I0.ok, r, q⟩
end

/-! ### what is read off a caught exception -/
/-- e.f -/
def tXk (K : PySem.W.Frag) (f : Str) (te : TE) : TE := fun σ H Q => te σ H fun x H1 => ∃ (a C dd : Addr) (fs : List (Str × V)) (v : V),
  x = .ref a ∧ H1 a = some (ExK (.ref C) (some dd) a) ∧ XfC K C ∧ PySem.W.findIn K (.ref C) f = some none ∧ H1 dd = some (.xd fs) ∧ fs.lookup f = some v ∧ Q v H1
theorem pe_xk {X : Cx} {e : Expr} {te : TE} {pos : Pos} {f : Str} (he : PE X e te) (hb : attributeBase e f X.env (eval e X.env) = eval e X.env := by rfl) :
    PE X (.Attribute e f pos) (tXk X.K f te) := by
  refine ⟨fun pins s σ H Q I h => ?_⟩
  refine attr_of hb (thn (he.run pins s σ H _ I h) fun u s1 hh => ?_)
  obtain ⟨x, H1, I1, rx, a, C, dd, fs, v, ex, ea, T, hno, ed, l, q⟩ := hh
  subst ex
  obtain rfl : u = Value.ref a := rx
  obtain ⟨oe, vs, ha, hz, hd⟩ := exK_at I1.hok ea
  have hx : ObjOk X.prog X.w H1 s1.heap dd (.xd fs) := I1.hok dd _ ed
  obtain ⟨mA, hns, hr⟩ := hx
  obtain ⟨od, ho, hl⟩ := lookIn_ns hns
  obtain ⟨u, hu, ru⟩ := RelO.some_of (v := v) (o := mA f) (by rw [← l]; exact hr f)
  have J : PySem.W.InstAt s1.heap a oe C (some od) := ⟨ha, hz.1, by unfold PySem.W.notCls; rw [hd] <;> rfl, by rw [hz.2]; exact ho⟩
  exact HandSPX.exc_get I1.kIn J T.ga T.gg T.exC (PySem.W.findObj_own T.hdC hno rfl (by rw [hl, hu])) (handed_of ru) ⟨v, H1, I1.tok _, ru, q⟩
/-- isinstance(e, c) -/
def rIsK (K : PySem.W.Frag) : List V → Hp → VK → Prop := fun xs H Q => ∃ (a D : Addr) (d : Option Addr) (c : V) (cv : Value) (b : Bool),
  xs = [.ref a, c] ∧ H a = some (ExK (.ref D) d a) ∧ (∀ dd, d = some dd → ∃ fs, H dd = some (.xd fs)) ∧ ExcC K D ∧ ClsV c cv ∧
  PySem.W.kitOne K (.ref D) cv = some b ∧ Q (.bl b) H
theorem call_isX {X : Cx} : CallR X (.builtin "isinstance") (rIsK X.K) := by
  intro pins s σ H xs us Q I r h
  obtain ⟨a, D, d, c, cv, b, rfl, ea, hd, C, k, e, q⟩ := h
  obtain ⟨u1, u2, rfl, r1, r2⟩ := vals2 r
  have e2 := k.eq r2
  subst e2
  cases (show u1 = Value.ref a from r1)
  obtain ⟨oe, vs, ha, hz, hv⟩ := exK_at I.hok ea
  have hcl : (PySem.W.clsIn X.K D).isSome = true := by
    obtain ⟨cd, hc, _⟩ := PySem.W.any_some C.hd
    rw [hc]
    rfl
  have J : ∃ od, PySem.W.InstAt s.heap a oe D od := by
    cases d with
    | none => exact ⟨none, ha, hz.1, by unfold PySem.W.notCls; rw [hv] <;> rfl, by rw [hz.2]; trivial⟩
    | some dd =>
      obtain ⟨fs, ed⟩ := hd dd rfl
      obtain ⟨mA, hns, _⟩ := (show ObjOk X.prog X.w H s.heap dd (.xd fs) from I.hok dd _ ed)
      obtain ⟨od, ho, _⟩ := lookIn_ns hns
      exact ⟨some od, ha, hz.1, by unfold PySem.W.notCls; rw [hv] <;> rfl, by rw [hz.2]; exact ho⟩
  obtain ⟨od, J⟩ := J
  exact PySem.W.kia_one (PySem.W.kitx_exc hcl C.hg C.hk C.hs C.ha C.hn C.ht C.hm) I.kIn J e (fun z => nomatch z) fun tk => ⟨.bl b, H, I.kept (t' := tk) fun _ _ z => z, rfl, q⟩
end CT
namespace CT
open PySem PySem.Spec PyProof.Rows L2

/-! ### comparisons by a class's own methods, the other operand any value of a known kind -/
theorem cmp_back {X : Cx} {pins : List (Addr × Obj)} {σ : St} {Q : VK} {v : V} {u : Value} {s' : Shared} (r : RelV v u) (h : EP X pins σ Q u s') :
    PySem.W.CmpBack (EP X pins σ Q) u s' := by
  cases u with
  | notImplemented =>
    cases v <;> first
      | (have z : Value.notImplemented = _ := r; cases z)
      | (obtain ⟨t, z⟩ := r; cases z)
  | _ => exact h
def rOwnC (K : PySem.W.Frag) (C : Addr) (sp : Sp) (E : XK) : R2 := fun x y H Q => ∃ a dx fs t, x = .ref a ∧ H a = some (.ins C dx fs) ∧ TyX K H y t ∧
  PySem.W.notFirst K C t = true ∧ sp [x, y] H Q E
section
variable {X : Cx} {CX : CXT} {n : Nat} {C g : Addr} {fd : FuncData} {ps : List Str} {sp : Sp} {E : XK}
theorem op_ownC {op : CmpOp} (hop : ∀ a b, compareOp op a b = richCompare op a b) (hs : PySem.W.findIn X.K (.ref C) (cmpInfo op).2.1 = some (some (.ref g)))
    (hf : PySem.W.isFn X.K (.ref g) = true) (F : FnOk X.prog X.w X.K X.mg X.base CX n g fd ps sp) (hb : Binds X.K fd ps []) (hr : Room n X.A) (hx : Passes CX X E) :
    OpR X (compareOp op) (rOwnC X.K C sp E) := by
  intro pins s σ H x y v u Q I rx ry h
  obtain ⟨a, dx, fs, t, rfl, ha, ty, hn, q⟩ := h
  cases (show v = Value.ref a from rx)
  obtain ⟨mA, J, _⟩ := ins_get I.hok ha
  obtain ⟨od, J, _⟩ := J.look
  obtain ⟨P, Z, hp, _⟩ := kit_of I ry ty
  obtain ⟨m, hF⟩ := I.fr
  rw [hop]
  refine PySem.W.cmp_K (op := op) (tb := t) hr.units0 hF I.ok.mod.kin J (Z.ty _ _ I.kIn hp) hn hs hf ?_
  refine wpAny_mono (run_fn (us := [.ref a, u]) (vs := [.ref a, y]) F hr hb .nil hx I (.cons rfl (.cons ry .nil)) q) (fun w s' z => ?_) fun _ _ x => x
  obtain ⟨z', H', I', rz, qz⟩ := z
  exact cmp_back rz ⟨z', H', I', rz, qz⟩
end

/-! ### != by an own ==, where the class has no != of its own -/
theorem ifBuilt_K {M : Model} {K : PySem.W.Frag} {A : Around} {E : Value → Shared → Prop} {s : Shared} {x C : Addr} {ox : Obj} {od : Option Obj} {T : String} {name : Str} {id : String} {args : List Value} {Q : Option Value → Shared → Prop}
    (X : K.In s.heap) (I : PySem.W.InstAt s.heap x ox C od) (hs : PySem.W.findIn K (.ref C) name = some (some (.builtin id))) (S : Slot T name id)
    (h : wpAny M A (call (.builtin id) (.ref x :: args)) (fun v => Q (some v)) E s) : wpAny M A (callSpecialIfBound? (.ref x) name args) Q E s := by
  simp only [callSpecialIfBound?, bindSpecialIfBound?]
  refine wpAny_holding (wpAny_bind (wpAny_bind (wpAny_bind (I.type.here ((PySem.W.looks_findIn X hs).here ?_)))))
  simp only [S.bind]
  refine wpAny_bind (wpAny_askSetting (wpAny_ite ?_))
  have fin : wpAny M A (call (.builtin id) ([.ref x] ++ args) >>= fun v => pure (some v)) Q E s :=
    wpAny_bind (wpAny_mono h (fun v s' h' => wpAny_pure h') fun _ _ h' => h')
  split
  · exact wpAny_bind (wpAny_pure (wpAny_pure fin))
  · exact wpAny_tryCatch (wpAny_bind (wpAny_pure (wpAny_pure fin)))
section
variable {prog : Program} {w : World} {A : Around} {E : Value → Shared → Prop} {s : Shared} {K : PySem.W.Frag} {x C f L : Addr} {ox : Obj} {od : Option Obj} {b tb : Value} {h0 : Heap} {m : Str → Option Value}
theorem ne_K {Q : Value → Shared → Prop} (hu : A.units + 1 < cLine) (FF : PyProof.Rows.Fr h0 L s.heap m) (X0 : K.In h0) (I : PySem.W.InstAt s.heap x ox C od)
    (hb : PySem.W.Looks (model prog w) s.heap (typeOf b) tb) (hn : PySem.W.notFirst K C tb = true) (hne : PySem.W.findIn K (.ref C) "__ne__" = some (some (.builtin "object.__ne__")))
    (hs : PySem.W.findIn K (.ref C) "__eq__" = some (some (.ref f))) (hf : PySem.W.isFn K (.ref f) = true) (hm : PySem.W.mroIn K C (.type "object") = some true)
    (h : wpAny (model prog w) A.in1 (call (.ref f) [.ref x, b]) (fun v s' => ∃ r, v = .bool r ∧ Q (.bool (!r)) s') E s) :
    wpAny (model prog w) A (richCompare .NotEq (.ref x) b) Q E s := by
  have X := X0.keeps FF.keep
  have sub : PySem.W.Looks (model prog w) s.heap (isInstance (.ref x) (.type "object")) true := I.type.andThen (PySem.W.looks_mroIn X hm)
  have one : wpAny (model prog w) A (tryCompare (.ref x) (cmpInfo .NotEq).2.1 b) (fun r s' => ∃ v, r = some v ∧ Q v s') E s := by
    unfold tryCompare
    refine wpAny_bind (ifBuilt_K X I hne F.cmp_object.ne (wpAny_call (codeAny_call_builtin F.cmp_object.ne.plain F.cmpEntry_ne
      (PySem.W.check_slot F.cmpKind_ne F.cmpSplit_ne sub (F.cmpArgs_ne _ _) ?_))))
    unfold Builtin.«object.__ne__»
    refine wpAny_bind (wpAny_of_eq (a := ((Value.ref x : Value), [b])) (by first | rfl | (simp only [slotArgs]; rfl)) ?_)
    dsimp only
    refine wpAny_bind (wpAny_cRoomFor (show A.in1.units < cLine from hu) ?_)
    refine wpAny_bind (PySem.W.ifBound_K X I hs hf (wpAny_mono h (fun v s' hv => ?_) fun _ _ e => e))
    obtain ⟨r, rfl, hq⟩ := hv
    dsimp only
    refine wpAny_bind (wpAny_truthy_bool ?_)
    first
      | exact wpAny_pure ⟨_, rfl, hq⟩
      | exact wpAny_pure (wpAny_pure ⟨_, rfl, hq⟩)
      | (unfold Builtin.ret; exact wpAny_pure ⟨_, rfl, hq⟩)
  unfold richCompare
  simp only [oneThing_ref]
  refine wpAny_holding (wpAny_bind (wpAny_cRoomFor (Nat.lt_of_succ_lt hu) ?_))
  refine wpAny_bind (I.type.here (wpAny_bind (hb.here ?_)))
  split
  · rename_i q
    have e : PySem.W.subIn K tb (.ref C) = some false := by
      rcases Bool.or_eq_true_iff.mp hn with e | e
      · rw [beq_iff_eq.mp e] at q; simp at q
      · exact beq_iff_eq.mp e
    refine wpAny_bind ((PySem.W.looks_subIn X e).here ?_)
    simp only [Bool.false_eq_true, if_false]
    refine wpAny_bind (wpAny_mono one (fun r s' z => ?_) fun _ _ e => e)
    obtain ⟨v, rfl, hq⟩ := z
    exact wpAny_pure hq
  · refine wpAny_bind (wpAny_pure ?_)
    simp only [Bool.false_eq_true, if_false]
    refine wpAny_bind (wpAny_mono one (fun r s' z => ?_) fun _ _ e => e)
    obtain ⟨v, rfl, hq⟩ := z
    exact wpAny_pure hq
end

section
variable {X : Cx} {CX : CXT} {n : Nat} {C g : Addr} {fd : FuncData} {ps : List Str} {sp : Sp} {E : XK}
/-- x != y: what the own == answers, turned round -/
def rNeC (K : PySem.W.Frag) (C : Addr) (sp : Sp) (E : XK) : R2 := fun x y H Q => ∃ a dx fs t, x = .ref a ∧ H a = some (.ins C dx fs) ∧ TyX K H y t ∧
  PySem.W.notFirst K C t = true ∧ sp [x, y] H (fun v H' => ∃ r, v = .bl r ∧ Q (.bl (!r)) H') E
theorem op_neC (hne : PySem.W.findIn X.K (.ref C) "__ne__" = some (some (.builtin "object.__ne__"))) (hm : PySem.W.mroIn X.K C (.type "object") = some true)
    (hs : PySem.W.findIn X.K (.ref C) "__eq__" = some (some (.ref g))) (hf : PySem.W.isFn X.K (.ref g) = true) (F : FnOk X.prog X.w X.K X.mg X.base CX n g fd ps sp) (hb : Binds X.K fd ps [])
    (hr : Room (n + 1) X.A) (hx : Passes CX X E) : OpR X (compareOp .NotEq) (rNeC X.K C sp E) := by
  intro pins s σ H x y v u Q I rx ry h
  obtain ⟨a, dx, fs, t, rfl, ha, ty, hn, q⟩ := h
  cases (show v = Value.ref a from rx)
  obtain ⟨mA, J, _⟩ := ins_get I.hok ha
  obtain ⟨od, J, _⟩ := J.look
  obtain ⟨P, Z, hp, _⟩ := kit_of I ry ty
  obtain ⟨m, hF⟩ := I.fr
  show wpAny (model X.prog X.w) X.A (richCompare .NotEq (.ref a) u) _ _ s
  refine ne_K (by have := hr.un; omega) hF I.ok.mod.kin J (Z.ty _ _ I.kIn hp) hn hne hs hf hm ?_
  have r2 : Vals [V.ref a, y] [Value.ref a, u] := .cons rfl (.cons ry .nil)
  have hl := F.len _ _ _ _ q
  refine wpAny_call (codeAny_mono (F.run X.A.in1 X.stack s H ⟨[.ref a, u], []⟩ [.ref a, u] [.ref a, y] _ E hr.in1 I.env0.in1 (by
    have z := hb s [.ref a, u] I.kIn (by simpa using hl)
    simpa using z) r2 q) fun r s' hq => ?_)
  cases r with
  | error e => exact hx pins σ H s e s' I hq
  | ok fl =>
    cases fl with
    | ret w =>
      obtain ⟨z, H', I', rz, k, ez, qz⟩ := I.after hq
      subst ez
      cases (show w = Value.bool k from rz)
      exact ⟨k, rfl, .bl (!k), H', I', rfl, qz⟩
    | next => exact False.elim hq
    | brk => exact False.elim hq
    | cont => exact False.elim hq
end

end CT
namespace CT
open PySem PySem.Spec PyProof.Rows L2

/-! ### repr of data, where no repr is under way around -/
/-- repr(x) -/
def rRepr (K : PySem.W.Frag) : List V → Hp → VK → Prop := fun xs H Q => ∃ (x : V) (d : PyData), xs = [x] ∧ Dp K H x d ∧ d.showable = true ∧ d.hasDict = false ∧
  d.depth ≤ 60 ∧ d.shown.length ≤ sizeLine ∧ Q (.str d.shown) H
theorem call_repr {X : Cx} (hg : X.A.guards = some []) (hu : X.A.units + 64 < cLine) : CallR X (.builtin "repr") (rRepr X.K) := by
  intro pins s σ H xs us Q I r h
  obtain ⟨x, d, rfl, hd, sh, nd, dp, sz, q⟩ := h
  cases r with
  | cons rx rr =>
    rename_i u us'
    cases rr
    have fin : ∀ (tk : Tok) (t' : Nat), EP X pins σ Q (.str d.shown tk) { s with toks := t' } := fun tk t' => ⟨.str d.shown, H, I.tok _, ⟨_, rfl⟩, q⟩
    cases hd with
    | non =>
      cases (show u = Value.none from rx)
      exact PySem.P.repr_of_none (fin _ _)
    | bl b =>
      cases (show u = Value.bool b from rx)
      refine PySem.P.repr_of_bool ?_
      cases b <;> exact fin _ _
    | int i =>
      obtain ⟨t, rfl⟩ := (show ∃ t, u = Value.int i t from rx)
      exact PySem.P.repr_of_int (by simpa [PyData.showable] using sh) (fin _ _)
    | str y =>
      obtain ⟨t, rfl⟩ := (show ∃ t, u = Value.str y t from rx)
      exact PySem.P.repr_of_str (fin _ _) sz
    | lst hs ha =>
      rename_i b ys ds
      obtain ⟨as, rd⟩ := Dp.reads I _ _ u (Dp.lst hs ha) rx
      cases (show u = Value.ref b from rx)
      exact repr_of_reads' rd sh (fun z => absurd (nd.symm.trans z) (by decide)) hg (by omega) (fun _ _ e => e) (fun h' tk t' k => ⟨.str _, H, I.kept k, ⟨_, rfl⟩, q⟩) sz
    | tup hs ha =>
      rename_i b ys ds
      obtain ⟨as, rd⟩ := Dp.reads I _ _ u (Dp.tup hs ha) rx
      cases (show u = Value.ref b from rx)
      exact repr_of_reads' rd sh (fun z => absurd (nd.symm.trans z) (by decide)) hg (by omega) (fun _ _ e => e) (fun h' tk t' k => ⟨.str _, H, I.kept k, ⟨_, rfl⟩, q⟩) sz

/-! ### defs that ask for reprs: their promise holds where no repr is under way -/
structure FnOkG (P : Program) (w : World) (K : PySem.W.Frag) (mg : Str → Option Value) (base : Heap) (CX : CXT) (k : Nat) (f : Addr) (fd : FuncData) (ps : List Str) (sp : Sp) : Prop where
  len : ∀ vs H Q E, sp vs H Q E → vs.length = ps.length
  run : ∀ (A : Around) (outer : List Env) (s : Shared) (H : Hp) (args : Args) (us : List Value) (vs : List V) (Q : VK) (E : XK), Room k A → A.guards = some [] →
    Env0 P w K mg base A outer s H → BindsTo s fd args (ps.zip us) → Vals vs us → sp vs H Q E → codeAny (model P w) A (.call (.ref f) args) (CR CX outer P w H s Q E) s
theorem _root_.L2.FnOk.toG {P : Program} {w : World} {K : PySem.W.Frag} {mg : Str → Option Value} {base : Heap} {CX : CXT} {k : Nat} {f : Addr} {fd : FuncData} {ps : List Str} {sp : Sp}
    (F : FnOk P w K mg base CX k f fd ps sp) : FnOkG P w K mg base CX k f fd ps sp :=
  ⟨F.len, fun A outer s H args us vs Q E hr _ => F.run A outer s H args us vs Q E hr⟩
section
variable {X : Cx} {CX : CXT} {k : Nat} {f C : Addr} {fd : FuncData} {ps : List Str} {sp : Sp} {dvs : List V} {ds : List Value} {E : XK} {x : Str} {p pos : Pos} {e : Expr} {es : List Expr} {t : TA}
theorem run_fnG {pins : List (Addr × Obj)} {σ : St} {H : Hp} {s : Shared} {Q : VK} {us : List Value} {vs : List V} (F : FnOkG X.prog X.w X.K X.mg X.base CX k f fd ps sp)
    (hr : Room k X.A) (hgd : X.A.guards = some []) (hb : Binds X.K fd ps ds) (hd : Vals dvs ds) (hx : Passes CX X E)
    (I : Inv X pins σ H s) (r : Vals vs us) (h : sp (vs ++ dvs) H Q E) : wpAny (model X.prog X.w) X.A (call (.ref f) us) (EP X pins σ Q) X.xe s := by
  have r2 := r.append hd
  have hl : (us ++ ds).length = ps.length := by
    rw [← r2.length]
    exact F.len _ _ _ _ h
  have c := F.run X.A X.stack s H ⟨us, []⟩ (us ++ ds) (vs ++ dvs) Q E hr hgd I.env0 (hb s us I.kIn hl) r2 h
  refine wpAny_call (codeAny_mono c fun r s' hq => ?_)
  match r, hq with
  | .error e, hq => exact hx pins σ H s e s' I hq
  | .ok (.ret u), hq => exact I.after hq
  | .ok .next, hq => exact False.elim hq
  | .ok .brk, hq => exact False.elim hq
  | .ok .cont, hq => exact False.elim hq
theorem pe_callG (F : FnOkG X.prog X.w X.K X.mg X.base CX k f fd ps sp) (hr : Room k X.A) (hgd : X.A.guards = some []) (hg : Gl X x) (hm : X.mg x = some (.ref f))
    (hk : PySem.W.keepIn X.K (.ref f) = true) (hb : Binds X.K fd ps ds) (hd : Vals dvs ds) (hx : Passes CX X E) (ha : PA X (e :: es) t)
    (hdb : (x == ("__debug__" : Str)) = false := by decide) (he : starEach (e :: es) X.env = (false, eval e X.env) :: starEach es X.env := by rfl)
    (hpl : (backTo pos (starEach es X.env)).any (·.1) = false := by rfl) : PE X (.Call (.Name x p) (e :: es) [] pos) (tCall sp dvs E t) := by
  constructor
  intro pins s σ H Q I h
  refine wpAny_Call_Name_kw (ld_glob I hg hm ?_ hdb)
  refine PySem.W.callWith_K (h₀ := X.base) I.ok.mod.kin hk (thn (ha.run pos pins s σ H _ I h) fun us s1 z => ?_) he hpl
  obtain ⟨vs, H1, I1, r, q⟩ := z
  exact ⟨I1.kIn, run_fnG F hr hgd hb hd hx I1 r q⟩
end
/-- a def by its body, its promise for where no repr is under way -/
theorem _root_.L2.Fun.okG {P : Program} {w : World} {K : PySem.W.Frag} {mg : Str → Option Value} {base : Heap} {x qual : Str} {st : Stmt} {f : Addr} {fd : FuncData} {N ps : List Str} {k : Nat} {sp : Sp}
    (F : L2.Fun K x qual st f fd) (S : FnScope N ps (defScope st)) (len : ∀ vs H Q E, sp vs H Q E → vs.length = ps.length)
    (hbody : ∀ (cdv : Value) (A : Around) (outer : List Env) (s : Shared) (H : Hp) (vs : List V) (Q : VK) (E : XK), A.guards = some [] →
      Room k (A.deeper (envOfC qual (defScope st) s.heap.objs.size f cdv)) → sp vs H Q E →
      ∃ t, PSs (cxOf CX0 P w K mg base N qual (defScope st) f cdv A outer s H E).nox (defBody st) t ∧ t { nx := fun _ H' => Q .non H', rt := Q } (start N vs) H) :
    FnOkG P w K mg base CX0 (k + 1) f fd ps sp := by
  obtain ⟨oc, od, kV, doc, pm, an, cdv, ct, osl, rfl, lk, hcd⟩ := F.ex
  refine ⟨len, fun A outer s H args us vs Q E hr hgd e0 hb r hsp => ?_⟩
  exact LamX.run_ofS (N := N) lk hcd S hr e0 hb r (len _ _ _ _ hsp) fun hr' => by
    obtain ⟨t, h, q⟩ := hbody cdv A outer s H vs Q E hgd hr' hsp
    exact ⟨t, h.nox, q⟩
end CT
namespace CT
open PySem PySem.Spec PyProof.Rows L2

/-! ### the end of a law whose defs ask for reprs; tb: the tables of code objects -/
/-- the abstract heap that the law begins with: the script, locked, and the tables, empty -/
def lawH (K : PySem.W.Frag) (a : Addr) (vs : Array Value) (ns : List Int) (tb : List Addr) : Hp := fun b =>
  if b = a ∧ K.lookup a = none then some (.frz { cls := .type "list", data := .seq vs } (.lst (ns.map V.int)))
  else if b ∈ tb then some (.tbl #[]) else none
section
variable {P : Program} {w : World} {K : PySem.W.Frag} {mg mb : Str → Option Value} {CX : CXT} {k : Nat} {fa a : Addr} {cs : List (Addr × Addr)} {fd : FuncData} {x : Str} {sp : Sp}
  {s1 : Shared} {vs : List Value} {ns : List Int}
theorem law_callG (KX : K.In s1.heap) (hns : s1.heap.Ns mainGlobals mg) (hb : s1.heap.Ns builtinsNs mb) (hbb : ∀ x : Str, x ≠ "__name__" → mb x = bootBuiltins x)
    (hlim : s1.heap.NoLimit) (hg : s1.gens = #[]) (hT : ∀ p ∈ cs, s1.heap.get? p.2 = some { cls := .none, data := .fields #[] }) (nT : ∀ p ∈ cs, K.lookup p.2 = none)
    (C : ∀ p ∈ cs, PySem.W.CodeHd s1.heap p.1 p.2)
    (hbm : ∃ (bm : Addr) (ob : Obj), mg "__builtins__" = some (.ref bm) ∧ bm ≠ builtinsNs ∧ s1.heap.get? bm = some ob ∧ ob.cls = .type "module" ∧ ob.dict = some builtinsNs ∧ ob.data = .plain)
    (ha : s1.heap.get? a = some { cls := .type "list", data := .seq vs.toArray }) (hi : IntsAre vs ns) (hl : ns.length ≤ sizeLine) (hr : Room k callerA)
    (F : ∀ base : Heap, K.In base → base.Ns mainGlobals mg → (∀ p ∈ cs, LamX.TabB base mg p.1 p.2) → FnOkG P w K mg base CX k fa fd [x] sp)
    (hbind : ∀ (s : Shared) (u : Value), BindsTo s fd ⟨[u], []⟩ [(x, u)])
    (hsp : ∀ H : Hp, (∀ p ∈ cs, H p.2 = some (.tbl #[])) → SqL K H a (ns.map V.int) → sp [.ref a] H (fun v _ => v = .bl true) fun _ _ _ => False)
    (hCX : ∀ H e s', CX [] H s1 (fun _ _ _ => False) e s' → False) :
    codeAny (model P w) callerA (.call (.ref fa) ⟨[.ref a], []⟩) (fun r s' => r = .ok (.ret (.bool true)) ∧ OldK s1.heap s'.heap ∧ s'.os = s1.os ∧ AllBare s'.gens) s1 := by
  have rv : Vals (ns.map V.int) vs := vals_ints hi
  have lenV := hi.length
  let tb := cs.map (·.2)
  have inT : ∀ b, b ∈ tb → s1.heap.get? b = some { cls := .none, data := .fields #[] } := fun b q => by
    obtain ⟨p, hp, rfl⟩ := List.mem_map.mp q
    exact hT p hp
  have kT : ∀ b, b ∈ tb → K.lookup b = none := fun b q => by
    obtain ⟨p, hp, rfl⟩ := List.mem_map.mp q
    exact nT p hp
  have toT : ∀ p ∈ cs, p.2 ∈ tb := fun p hp => List.mem_map.mpr ⟨p, hp, rfl⟩
  have aNotT : a ∉ tb := fun q => by
    have z := (inT a q).symm.trans ha
    cases z
  let H := lawH K a vs.toArray ns tb
  have Ha : K.lookup a = none → H a = some (.frz { cls := .type "list", data := .seq vs.toArray } (.lst (ns.map V.int))) := fun q => if_pos ⟨rfl, q⟩
  have Ht : ∀ b, b ∈ tb → H b = some (.tbl #[]) := fun b q => by
    have n : ¬ (b = a ∧ K.lookup a = none) := fun z => aNotT (z.1 ▸ q)
    exact (if_neg n).trans (if_pos q)
  have Hn : ∀ b, ¬ (b = a ∧ K.lookup a = none) → b ∉ tb → H b = none := fun b n q => (if_neg n).trans (if_neg q)
  have HS : SqL K H a (ns.map V.int) := by
    cases q : K.lookup a with
    | none => exact .inl (.inr ⟨_, Ha q⟩)
    | some o =>
      have z := (KX a o q).symm.trans ha
      cases z
      exact .inr ⟨_, vs.toArray, _, q, rfl, rfl, rfl, by rw [List.size_toArray, lenV]; exact hl, by simpa using rv⟩
  have Hok : HOk P w H s1.heap := fun b u e => by
    by_cases h1 : b = a ∧ K.lookup a = none
    · obtain ⟨rfl, q⟩ := h1
      rw [Ha q] at e
      cases e
      exact ⟨ha, by rw [List.length_map]; exact hl, vs, _, rv, ha⟩
    · by_cases h2 : b ∈ tb
      · rw [Ht b h2] at e
        cases e
        exact inT b h2
      · rw [Hn b h1 h2] at e
        cases e
  -- what is neither a list nor an empty record of fields isn't tracked
  have off : ∀ {b : Addr} {o : Obj}, s1.heap.get? b = some o → (∀ v n, o.data ≠ .seq v n) → o.data ≠ .fields #[] → H b = none := fun {b o} e n1 n2 => by
    refine Hn b (fun z => ?_) (fun z => ?_)
    · obtain ⟨rfl, _⟩ := z
      rw [ha] at e
      cases e
      exact n1 _ _ rfl
    · rw [inT b z] at e
      cases e
      exact n2 rfl
  have offD : ∀ {b : Addr} {o : Obj} {es : Array DictEntry} {ep : Nat}, s1.heap.get? b = some o → o.data = .dict es ep → H b = none := fun {b o es ep} e d =>
    off e (fun v n z => by rw [d] at z; cases z) (fun z => by rw [d] at z; cases z)
  have toBase : ∀ {b : Addr} {o : Obj}, s1.heap.get? b = some o → H b = none → (hidT s1.heap H).get? b = some o := fun e n => hidT_get e n
  have nsB : ∀ {b : Addr} {m : Str → Option Value}, s1.heap.Ns b m → (hidT s1.heap H).Ns b m := fun {b m} z => by
    obtain ⟨o, es, ep, e, d, r⟩ := z
    exact ⟨o, es, ep, toBase e (offD e d), d, r⟩
  have KB : K.In (hidT s1.heap H) := fun b o e => toBase (KX b o e) (Hn b (fun z => by
      obtain ⟨rfl, q⟩ := z
      rw [q] at e
      cases e) fun z => by
      rw [kT b z] at e
      cases e)
  have MB : Mod K mg (hidT s1.heap H) := ⟨KB, nsB hns, ⟨mb, nsB hb, hbb⟩, by
    obtain ⟨mc, h1, h2⟩ := hlim
    exact ⟨mc, nsB h1, h2⟩⟩
  have TB : ∀ p ∈ cs, LamX.TabB (hidT s1.heap H) mg p.1 p.2 := fun p hp => by
    refine ⟨?_, ?_, fun z => ?_⟩
    · obtain ⟨o, us, file, tf, flags, tg, inF, text, tt, e1, r1, r2, r3, r4, r5, r6, r7, r8, hne⟩ := C p hp
      refine ⟨o, us, file, tf, flags, tg, inF, text, tt, toBase e1 (off e1 (fun v n z => ?_) fun z => ?_), r1, r2, r3, r4, r5, r6, r7, r8, hne⟩
      · rw [r2] at z
        cases z
      · rw [r2] at z
        cases z
        simp at r3
    · obtain ⟨bm, ob, b1, b2, b3, b4, b5, b6⟩ := hbm
      refine ⟨bm, ob, b1, b2, fun q => ?_, fun q => ?_, toBase b3 (off b3 (fun v n z => by rw [b6] at z; cases z) fun z => by rw [b6] at z; cases z), b4, b5, b6⟩
      · obtain ⟨o, es, ep, e, d, _⟩ := hns
        rw [q, e] at b3
        cases b3
        rw [d] at b6
        cases b6
      · rw [q, hT p hp] at b3
        cases b3
        cases b6
    · obtain ⟨o, es, ep, e, d, _⟩ := hns
      rw [z, hT p hp] at e
      cases e
      cases d
  have noFr : ∀ b ∈ frs ([] : List Env), H b = none := fun b z => absurd (show b ∈ ([] : List Addr) from z) (by simp)
  have E0 : Env0 P w K mg (hidT s1.heap H) callerA [] s1 H := ⟨rfl, MB, fun b o e => of_hidT e, Nat.le_of_eq (hidT_size _ _), trivial, noFr, Hok, .of_eq hg⟩
  have run := (F _ KB (nsB hns) TB).run callerA [] s1 H ⟨[.ref a], []⟩ [.ref a] [.ref a] _ _ hr rfl E0 (hbind s1 (.ref a)) (.cons rfl .nil) (hsp H (fun p hp => Ht _ (toT p hp)) HS)
  refine codeAny_mono run fun r s' h => ?_
  match r, h with
  | .error e, h => exact (hCX H e s' h).elim
  | .ok .next, h => exact False.elim h
  | .ok .brk, h => exact False.elim h
  | .ok .cont, h => exact False.elim h
  | .ok (.ret u), h =>
    obtain ⟨v, H', os, bare, un, hok', r', q⟩ := h
    have q' : v = .bl true := q
    subst q'
    obtain rfl : u = Value.bool true := r'
    have stays : ∀ b o, b ∉ tb → s1.heap.get? b = some o → s'.heap.get? b = some o := fun b o nb e => by
      by_cases h1 : b = a ∧ K.lookup a = none
      · obtain ⟨rfl, q⟩ := h1
        obtain ⟨e1, _⟩ := Hok b _ (Ha q)
        obtain ⟨e2, _⟩ := hok' b _ (un.frzs b _ _ (Ha q))
        rw [e1] at e; cases e; exact e2
      · exact un.keep b o e (Hn b h1 nb) (fun z => nomatch z) (fun z => nomatch z)
    have grew : ∀ b, b ∈ tb → ∃ more : Array Value, s'.heap.get? b = some { cls := .none, data := .fields more } := fun b z => by
      obtain ⟨more, y⟩ := un.tbls b #[] (Ht b z)
      exact ⟨_, hok' b _ y⟩
    refine ⟨rfl, ⟨fun b o e => ?_, fun b o e => ?_⟩, os, bare⟩
    · by_cases hbt : b ∈ tb
      · obtain ⟨more, hm⟩ := grew b hbt
        obtain ⟨p, hp, ep⟩ := List.mem_map.mp hbt
        have ct := ((C p hp).tab (hT p hp)).isCodeTable
        rw [ep] at ct
        rw [inT b hbt] at e
        cases e
        exact .inr (.inl ⟨ct, rfl, #[], more, rfl, by rw [Array.empty_append]; exact hm⟩)
      · exact .inl (stays b o hbt e)
    · by_cases hbt : b ∈ tb
      · obtain ⟨more, hm⟩ := grew b hbt
        exact ⟨_, hm⟩
      · exact ⟨o, stays b o hbt e⟩
end
/-- what is known of the law's promise at the head's heap h -/
def LawAtG (l : PySem.W.OpenLaw) (w : World) (K : PySem.W.Frag) (CX : CXT) (k n : Nat) (x : Str) (mg : Str → Option Value) (fa : Addr) (h : Heap) : Prop :=
  ∃ (fd : FuncData) (cs : List (Addr × Addr)) (sp : Sp), (∀ p ∈ cs, h.get? p.2 = some { cls := .none, data := .fields #[] }) ∧ (∀ p ∈ cs, K.lookup p.2 = none) ∧
    (∀ p ∈ cs, PySem.W.CodeHd h p.1 p.2) ∧ (∀ (s : Shared) (u : Value), BindsTo s fd ⟨[u], []⟩ [(x, u)]) ∧
    (∀ (H : Hp) (a : Addr) (ns : List Int), ns.length ≤ n → (∀ z ∈ ns, Builtin.Int.intBits z ≤ 1048576) → (∀ p ∈ cs, H p.2 = some (.tbl #[])) → SqL K H a (ns.map V.int) →
      sp [.ref a] H (fun v _ => v = .bl true) fun _ _ _ => False) ∧
    ∀ base : Heap, K.In base → base.Ns mainGlobals mg → (∀ p ∈ cs, LamX.TabB base mg p.1 p.2) → FnOkG l.prog w K mg base CX k fa fd [x] sp
theorem walk_ofG {l : PySem.W.OpenLaw} {n k : Nat} {q : Program} {loose : List Str} {XP : (Str → Option Value) → Heap → Prop} {YP : World → Heap → Prop} {d : DefRec}
    {K : Params → PySem.W.Frag} {CX : World → CXT} {x : Str} (hn : l.most = some n) (hn2 : n ≤ sizeLine) (hdf : d.params.defaults = []) (hr : Room k callerA)
    (hY : ∀ (w : World) (h : Heap), YP w h → (K w.params).In h)
    (F : ∀ (w : World) (mg : Str → Option Value) (fa : Addr) (h : Heap), YP w h → (K w.params).In h → h.Ns mainGlobals mg → mg d.name = some (.ref fa) →
      LawAtG l w (K w.params) (CX w) k n x mg fa h)
    (hCX : ∀ (w : World) (H : Hp) (s : Shared) (e : Value) (s' : Shared), CX w [] H s (fun _ _ _ => False) e s' → False) :
    PySem.W.WalkO q loose XP YP l.row.toRowW d [] (fun f vs => PySem.call f vs) := by
  refine Att.attach_callB hn hdf fun w s0 s1 mg mb fa o pm cd doc a vs ns G Y ho hd hcd hmg hobj hints hlen hbits hg => ?_
  have KX := hY w _ Y
  obtain ⟨fd, cs, sp, hT, nT, C, hb, hsp, hF⟩ := F w mg fa _ Y KX G.T.g hmg
  exact law_callG KX G.T.g G.T.b G.T.builtins G.T.nolimit hg hT nT C G.T.bmain hobj hints (Nat.le_trans hlen hn2) hr hF hb
    (fun H hH hS => hsp H a ns hlen hbits hH hS) fun H e s' => hCX w H s1 e s'
end CT
namespace CT
open PySem PySem.Spec PyProof.Rows L2
open He (ga ma fAd)

/-! ### facts of the written part, each a Bool that the head's run computes -/
/-- a class by its name -/
inductive Nm where
  | own (x : Str)
  | ty (n : String)
def Nm.val (K : PySem.W.Frag) : Nm → Value
  | .own x => .ref (ga K x)
  | .ty n => .type n
/-- the record of a class, over ValueError, with its own classes between -/
def oexB (K : PySem.W.Frag) (C : Addr) : Bool := match K.lookup C with
  | some ⟨.type "type", _, .cls cd, sl⟩ => (match cd.mro, sl.toList with
    | .ref C' :: bm, [_, _, _, _, some (.builtin n), _] => decide (C' = C) && (decide (n = "ValueError.__new__") && (!cd.hasDel && (cd.hasDict && HandSPX.refsVE bm)))
    | _, _ => false)
  | _ => false
theorem oexB_ok {K : PySem.W.Frag} {C : Addr} (yes : oexB K C = true) : ∃ nm q N bs bm sn sub ab col dd k0 k1 k2 k3 k5,
    K.lookup C = some (excClassObj nm q C N bs bm true sn sub ab col dd k0 k1 k2 k3 k5 "ValueError.__new__") ∧ HandSPX.refsVE bm = true := by
  unfold oexB at yes
  split at yes
  case h_2 => contradiction
  rename_i dd cd sl look
  split at yes
  case h_2 => contradiction
  rename_i C' bm k0 k1 k2 k3 n k5 line rest
  simp only [Bool.and_eq_true, decide_eq_true_eq, Bool.not_eq_true'] at yes
  rcases yes with ⟨own, new, gone, kept, refs⟩
  refine ⟨cd.name, cd.qualname, cd.ns, cd.bases, bm, cd.slotNames, cd.subclasses, cd.abstract, cd.collection, dd, k0, k1, k2, k3, k5, look.trans ?_, refs⟩
  rw [own] at line
  rw [new] at rest
  rcases sl with ⟨_⟩
  cases cd
  cases (show _ = _ from line)
  cases (show _ = _ from rest)
  cases (show _ = _ from gone)
  cases (show _ = _ from kept)
  rfl
/-- a property's record, its getter -/
def propAt (K : PySem.W.Frag) (C : Addr) (f : Str) : Addr := match PySem.W.findIn K (.ref C) f with
  | some (some (.ref p)) => p
  | _ => 0
def recHead (K : PySem.W.Frag) (p : Addr) (T : String) : Addr := match PySem.W.recIn K p T with
  | some (.ref g :: _) => g
  | _ => 0
def recB (K : PySem.W.Frag) (p : Addr) (T : String) : Bool := match PySem.W.recIn K p T with
  | some (.ref _ :: _) => true
  | _ => false
theorem recB_ok {K : PySem.W.Frag} {p : Addr} {T : String} (h : recB K p T = true) : ∃ rest, PySem.W.recIn K p T = some (.ref (recHead K p T) :: rest) := by
  unfold recB at h
  split at h
  · rename_i g rest e
    exact ⟨rest, by unfold recHead; rw [e]⟩
  · cases h
def clsMc (K : PySem.W.Frag) (C : Addr) : Value := (PySem.W.typeIn K (.ref C)).getD .none
def cvalB (K : PySem.W.Frag) (C : Addr) (f : Str) (v : V) : Bool := match PySem.W.findCls K (.ref C) (clsMc K C) f with
  | some (.val u) => He.relB v u
  | _ => false
/-- the record of a classmethod or a static method that stands in the class -/
def cmAt (K : PySem.W.Frag) (C : Addr) (m : Str) : Addr := match PySem.W.findCls K (.ref C) (clsMc K C) m with
  | some (.get _ (.ref p) _ _) => p
  | _ => 0
def cmB (K : PySem.W.Frag) (C : Addr) (m : Str) : Bool := match PySem.W.findCls K (.ref C) (clsMc K C) m with
  | some (.get (.builtin b) (.ref _) .none (.ref D)) => decide (b = "classmethod.__get__") && decide (D = C)
  | _ => false

/-- a static method that stands in the class -/
def smB (K : PySem.W.Frag) (C : Addr) (m : Str) : Bool := match PySem.W.findCls K (.ref C) (clsMc K C) m with
  | some (.get (.builtin b) (.ref _) .none (.ref D)) => decide (b = "staticmethod.__get__") && decide (D = C)
  | _ => false

inductive Fc where
  /-- isinstance's answer for the kind t and the class c -/
  | kit (t c : Nm) (b : Bool)
  /-- an exception class over ValueError with an __init__ of its own -/
  | exo (x : Str)
  /-- the same without one of its own: what a clause, a class in isinstance asks -/
  | exb (x : Str)
  /-- a class's instances: isinstance asks them rightly; != is object's -/
  | ins (x : Str)
  | ne (x : Str)
  | op (x m : Str)
  | exm (x y : Str) (b : Bool)
  | cread (x : Str)
  | cval (x f : Str) (v : He.Dv)
  | prop (x f : Str)
  | cmet (x m : Str)
  | smet (x m : Str)
  | first (x : Str) (t : Nm)
  /-- the class is none of a built-in one; a name of the module that holds a built-in function -/
  | nomro (x : Str) (n : String)
  | bfun (x : Str) (id : String)
  /-- what a binary operator nm asks of the built-in kind n beside an instance of x; lf: does n take it as a number -/
  | bin (x : Str) (nm n : String) (lf : Bool)
  | sel (x : Str)
  /-- no method of its own for nm in place -/
  | inp (x : Str) (nm : String)
  /-- the interpreter's dict of modules is among what is known -/
  | smod
open PySem.W in
def binB (K : PySem.W.Frag) (C : Addr) (nm n : String) (lf : Bool) : Bool := (match findIn K (.type n) (PySem.dunder nm), findIn K (.type n) (dunderR nm) with
  | some fo, some ro => decide (((fo.isSome && !isSeqSlot fo) || (ro.isSome && !isSeqSlot ro)) = lf)
  | _, _ => false) && (decide (subIn K (.type n) (.ref C) = some false) && decide (mroIn K C (.type n) = some false))
open PySem.W in
def Fc.ok (K : PySem.W.Frag) : Fc → Bool
  | .kit t c b => decide (kitOne K (t.val K) (c.val K) = some b)
  | .exo x => oexB K (ga K x) && (He.eqO (findIn K (.ref (ga K x)) "__setattr__") (some (some (.builtin "object.__setattr__"))) &&
      (He.eqO (findIn K (.ref (ga K x)) "__init__") (some (some (.ref (ma K (ga K x) "__init__")))) && (decide (typeIn K (.ref (ma K (ga K x) "__init__")) = some (.type "function")) && keepIn K (.ref (ga K x)))))
  | .exb x => xfB K (ga K x) && (decide (typeIn K (.ref (ga K x)) = some (.type "type")) && (He.eqO (findIn K (.ref (ga K x)) "__class__") (some (some (.builtin "object.__class__"))) &&
      (decide (specialIn K (.builtin "object.__class__") "__get__" = some (some (.builtin "getset_descriptor.__get__"))) && (decide (takesIn K (.builtin "object.__class__") = some true) && decide (mroIn K (ga K x) (.type "object") = some true)))))
  | .ins x => He.eqO (findIn K (.ref (ga K x)) "__class__") (some (some (.builtin "object.__class__"))) &&
      (decide (specialIn K (.builtin "object.__class__") "__get__" = some (some (.builtin "getset_descriptor.__get__"))) && (decide (takesIn K (.builtin "object.__class__") = some true) && decide (mroIn K (ga K x) (.type "object") = some true)))
  | .ne x => He.eqO (findIn K (.ref (ga K x)) "__ne__") (some (some (.builtin "object.__ne__")))
  | .op x m => He.eqO (findIn K (.ref (ga K x)) m) (some (some (.ref (ma K (ga K x) m)))) && isFn K (.ref (ma K (ga K x) m))
  | .exm x y b => decide (exmOne K (.ref (ga K x)) (.ref (ga K y)) = some b)
  | .cread x => readsIn K (ga K x) (clsMc K (ga K x)) && decide (specialIn K (.ref (ga K x)) "__getattribute__" = some (some (.builtin "type.__getattribute__")))
  | .cval x f v => cvalB K (ga K x) f (v.v K)
  | .prop x f => He.eqO (findIn K (.ref (ga K x)) f) (some (some (.ref (propAt K (ga K x) f)))) && (decide (specialIn K (.ref (propAt K (ga K x) f)) "__get__" = some (some (.builtin "property.__get__"))) &&
      (decide (takesIn K (.ref (propAt K (ga K x) f)) = some true) && recB K (propAt K (ga K x) f) "property"))
  | .cmet x m => cmB K (ga K x) m && (recB K (cmAt K (ga K x) m) "classmethod" && fnIn K (recHead K (cmAt K (ga K x) m) "classmethod"))
  | .smet x m => smB K (ga K x) m && (recB K (cmAt K (ga K x) m) "staticmethod" && keepIn K (.ref (recHead K (cmAt K (ga K x) m) "staticmethod")))
  | .first x t => notFirst K (ga K x) (t.val K)
  | .nomro x n => decide (mroIn K (ga K x) (.type n) = some false)
  | .bfun x id => He.eqO (nsIn K mainGlobals x) (some (some (.builtin id)))
  | .bin x nm n lf => binB K (ga K x) nm n lf
  | .sel x => selfFirst K (ga K x)
  | .inp x nm => (clsIn K (ga K x)).any fun cd => cd.mro.all fun c => findIn K c (dunderI nm) == some none
  | .smod => (K.lookup sysModules).isSome
theorem ba {a b : Bool} (h : (a && b) = true) : a = true ∧ b = true := Bool.and_eq_true_iff.mp h
section
variable {K : PySem.W.Frag}
theorem kit_f {t c : Nm} {b : Bool} (h : (Fc.kit t c b).ok K = true) : PySem.W.kitOne K (t.val K) (c.val K) = some b := of_decide_eq_true h
structure BinT (K : PySem.W.Frag) (C : Addr) (nm n : String) (lf : Bool) : Prop where
  ex : ∃ fo ro, PySem.W.findIn K (.type n) (PySem.dunder nm) = some fo ∧ PySem.W.findIn K (.type n) (dunderR nm) = some ro ∧ ((fo.isSome && !isSeqSlot fo) || (ro.isSome && !isSeqSlot ro)) = lf
  sub : PySem.W.subIn K (.type n) (.ref C) = some false
  mro : PySem.W.mroIn K C (.type n) = some false
theorem bin_f {x : Str} {nm n : String} {lf : Bool} (h : (Fc.bin x nm n lf).ok K = true) : BinT K (ga K x) nm n lf := by
  obtain ⟨h1, h⟩ := ba h
  obtain ⟨h2, h3⟩ := ba h
  refine ⟨?_, of_decide_eq_true h2, of_decide_eq_true h3⟩
  split at h1
  · rename_i fo ro e1 e2
    exact ⟨fo, ro, e1, e2, of_decide_eq_true h1⟩
  · cases h1
def noInpB (K : PySem.W.Frag) (C : Addr) (nm : String) : Prop := ∃ cd, PySem.W.clsIn K C = some cd ∧ (cd.mro.all fun c => PySem.W.findIn K c (dunderI nm) == some none) = true
theorem inp_f {x : Str} {nm : String} (h : (Fc.inp x nm).ok K = true) : noInpB K (ga K x) nm := PySem.W.any_some h
theorem smod_f (h : Fc.smod.ok K = true) : (K.lookup sysModules).isSome = true := h
theorem sel_f {x : Str} (h : (Fc.sel x).ok K = true) : PySem.W.selfFirst K (ga K x) = true := h
/-- an exception class with an __init__ -/
structure ExoC (K : PySem.W.Frag) (C fI : Addr) : Prop where
  oex : OexC K C
  init : PySem.W.findIn K (.ref C) "__init__" = some (some (.ref fI))
  fn : PySem.W.typeIn K (.ref fI) = some (.type "function")
theorem exb_f {x : Str} (h : (Fc.exb x).ok K = true) : XfC K (ga K x) ∧ ExcC K (ga K x) ∧ PySem.W.typeIn K (.ref (ga K x)) = some (.type "type") := by
  obtain ⟨h1, h⟩ := ba h
  obtain ⟨h2, h⟩ := ba h
  obtain ⟨h3, h⟩ := ba h
  obtain ⟨h4, h⟩ := ba h
  obtain ⟨h5, h6⟩ := ba h
  have q := xfB_ok h1
  exact ⟨q, ⟨q.ga, q.gg, q.exC, q.hdC, He.eqO_ok h3, of_decide_eq_true h4, of_decide_eq_true h5, of_decide_eq_true h6⟩, of_decide_eq_true h2⟩
theorem exo_f {x : Str} (h : (Fc.exo x).ok K = true) (h' : (Fc.exb x).ok K = true) : ExoC K (ga K x) (ma K (ga K x) "__init__") := by
  obtain ⟨h1, h⟩ := ba h
  obtain ⟨h2, h⟩ := ba h
  obtain ⟨h3, h⟩ := ba h
  obtain ⟨h4, h5⟩ := ba h
  obtain ⟨a, b, c⟩ := exb_f h'
  exact ⟨⟨oexB_ok h1, He.eqO_ok h2, a.exC, c, h5⟩, He.eqO_ok h3, of_decide_eq_true h4⟩
theorem op_f {x m : Str} (h : (Fc.op x m).ok K = true) : PySem.W.findIn K (.ref (ga K x)) m = some (some (.ref (ma K (ga K x) m))) ∧ PySem.W.isFn K (.ref (ma K (ga K x) m)) = true := by
  obtain ⟨h1, h2⟩ := ba h
  exact ⟨He.eqO_ok h1, h2⟩
theorem ne_f {x : Str} (h : (Fc.ne x).ok K = true) : PySem.W.findIn K (.ref (ga K x)) "__ne__" = some (some (.builtin "object.__ne__")) := He.eqO_ok h
theorem exm_f {x y : Str} {b : Bool} (h : (Fc.exm x y b).ok K = true) : PySem.W.exmOne K (.ref (ga K x)) (.ref (ga K y)) = some b := of_decide_eq_true h
theorem cread_f {x : Str} (h : (Fc.cread x).ok K = true) : ClX.CRead K (ga K x) (clsMc K (ga K x)) := by
  obtain ⟨h1, h2⟩ := ba h
  exact ⟨h1, of_decide_eq_true h2⟩
theorem cval_f {x f : Str} {v : He.Dv} (h : (Fc.cval x f v).ok K = true) : ∃ u, ClX.CVal K (ga K x) (clsMc K (ga K x)) f (v.v K) u := by
  have h' : cvalB K (ga K x) f (v.v K) = true := h
  unfold cvalB at h'
  split at h'
  · rename_i u e
    exact ⟨u, e, He.relB_ok h'⟩
  · cases h'
theorem prop_f {x f : Str} (h : (Fc.prop x f).ok K = true) : PropOf K (ga K x) f (propAt K (ga K x) f) (recHead K (propAt K (ga K x) f) "property") := by
  obtain ⟨h1, h⟩ := ba h
  obtain ⟨h2, h⟩ := ba h
  obtain ⟨h3, h4⟩ := ba h
  exact ⟨He.eqO_ok h1, of_decide_eq_true h2, of_decide_eq_true h3, recB_ok h4⟩
theorem nomro_f {x : Str} {n : String} (h : (Fc.nomro x n).ok K = true) : PySem.W.mroIn K (ga K x) (.type n) = some false := of_decide_eq_true h
theorem first_f {x : Str} {t : Nm} (h : (Fc.first x t).ok K = true) : PySem.W.notFirst K (ga K x) (t.val K) = true := h
/-- what isinstance asks of an instance -/
structure InsC (K : PySem.W.Frag) (C : Addr) : Prop where
  cl : Cls K C
  ha : PySem.W.findIn K (.ref C) "__class__" = some (some (.builtin "object.__class__"))
  hn : PySem.W.specialIn K (.builtin "object.__class__") "__get__" = some (some (.builtin "getset_descriptor.__get__"))
  ht : PySem.W.takesIn K (.builtin "object.__class__") = some true
  hm : PySem.W.mroIn K C (.type "object") = some true
theorem ins_f {x : Str} (h : (Fc.ins x).ok K = true) (c : Cls K (ga K x)) : InsC K (ga K x) := by
  obtain ⟨h1, h⟩ := ba h
  obtain ⟨h2, h⟩ := ba h
  obtain ⟨h3, h4⟩ := ba h
  exact ⟨c, He.eqO_ok h1, of_decide_eq_true h2, of_decide_eq_true h3, of_decide_eq_true h4⟩
end

/-! ### defs by their places -/
inductive Pl where
  | fn (x : Str)
  | me (x m : Str)
  | pr (x m : Str)
  | cm (x m : Str)
  | sm (x m : Str)
def Pl.adr (K : PySem.W.Frag) : Pl → Addr
  | .fn x => ga K x
  | .me x m => ma K (ga K x) m
  | .pr x m => recHead K (propAt K (ga K x) m) "property"
  | .cm x m => recHead K (cmAt K (ga K x) m) "classmethod"
  | .sm x m => recHead K (cmAt K (ga K x) m) "staticmethod"
structure Df where
  at_ : Pl
  name : Str
  qual : Str
  st : Stmt
  dfl : List He.Dv := []
/-- the function that stands at a -/
def funAt? (K : PySem.W.Frag) (a : Addr) : Option FuncData := match K.lookup a with
  | some o => (match o.data with
    | .func fd => some fd
    | _ => none)
  | none => none
def wordsOf (fd : FuncData) : Str × Str × Arguments × FuncBody × Scope × Addr × List (Str × Addr) × Addr :=
  (fd.name, fd.qualname, fd.params, fd.body, fd.scope, fd.globals, fd.closure, fd.builtins)
def fnWa (K : PySem.W.Frag) (a : Addr) : He.FnW := (funAt? K a).map wordsOf
def Df.val (d : Df) : He.FnW := some (d.name, d.qual, defArgs d.st, .stmts (defBody d.st), defScope d.st, mainGlobals, [], builtinsNs)
def Df.dvs (K : PySem.W.Frag) (d : Df) : List V := d.dfl.map (He.Dv.v K)
def Df.ok (K : PySem.W.Frag) (d : Df) : Bool := PySem.W.keepIn K (.ref (d.at_.adr K)) && ((funAt? K (d.at_.adr K)).any fun fd =>
  PySem.W.codeIn K fd.code d.qual && (He.dflB K fd.defaults (d.dvs K) && He.kwdB K fd.kwdefaults []))
/-- a def's function data -/
def fdAt (K : PySem.W.Frag) (f : Addr) : FuncData := (funAt? K f).getD default
theorem funAt_some {K : PySem.W.Frag} {a : Addr} {fd : FuncData} (e : funAt? K a = some fd) : ∃ c dd sl, K.lookup a = some ⟨c, dd, .func fd, sl⟩ := by
  revert e
  unfold funAt?
  match K.lookup a with
  | none => exact nofun
  | some ⟨c, dd, da, sl⟩ =>
    cases da with
    | func fd' =>
      intro e
      obtain rfl : fd' = fd := Option.some.inj e
      exact ⟨c, dd, sl, rfl⟩
    | _ => exact nofun
theorem Df.funD {K : PySem.W.Frag} {d : Df} (words : fnWa K (d.at_.adr K) = d.val) (c : d.ok K = true) :
    FunD K d.name d.qual (defArgs d.st) (defBody d.st) (defScope d.st) (d.dvs K) [] (d.at_.adr K) (fdAt K (d.at_.adr K)) := by
  rcases Option.map_eq_some_iff.mp words with ⟨fd, here, words⟩
  have rest := (ba c).2
  unfold fdAt
  rw [here] at rest ⊢
  rcases ba rest with ⟨code, rest⟩
  rcases funAt_some here with ⟨oc, od, sl, look⟩
  refine ⟨⟨oc, od, fd.defaults, fd.kwdefaults, fd.doc, fd.pyModule, fd.annotations, fd.code, fd.closureTuple, sl, ?_, look, code, He.dflB_ok (ba rest).1, He.kwdB_ok (ba rest).2⟩, (ba c).1⟩
  cases fd
  cases words
  rfl
/-- a def's code object and its table -/
def codeAt (K : PySem.W.Frag) (f : Addr) : Addr := match (fdAt K f).code with
  | .ref c => c
  | _ => 0
def tabAt (K : PySem.W.Frag) (f : Addr) : Addr × Addr := (codeAt K f, He.tabOf K (codeAt K f))

/-! ### the Hook: facts, defs, tables of code objects that are empty and not in K -/
structure Sys where
  fa : List He.Fa
  fc : List Fc
  fn : List Df
  tf : List Pl
def asC (g : Addr → Option Obj) (n : Nat) : List Addr := He.asD g n ++ [cStatics, sysModules]
def tabsC (g : Addr → Option Obj) (tf : List Pl) (K : PySem.W.Frag) : Bool := tf.all fun p => PySem.W.codeHdIn K (tabAt K (p.adr K)).1 (tabAt K (p.adr K)).2 && (match g (tabAt K (p.adr K)).2 with
  | some o => He.emptyTab o
  | none => false)
/-- no table twice -/
def apartB : List Addr → Bool
  | [] => true
  | a :: l => (l.all fun b => decide (a ≠ b)) && apartB l
theorem apart_inj {l : List (Addr × Str)} (h : apartB (l.map (·.1)) = true) : ∀ p ∈ l, ∀ q ∈ l, p.1 = q.1 → p.2 = q.2 := by
  induction l with
  | nil => intro p hp; cases hp
  | cons x l ih =>
    have h' : ((l.map (·.1)).all (fun b => decide (x.1 ≠ b)) && apartB (l.map (·.1))) = true := h
    obtain ⟨h1, h2⟩ := Bool.and_eq_true_iff.mp h'
    have far : ∀ q ∈ l, x.1 ≠ q.1 := fun q hq => of_decide_eq_true (List.all_eq_true.mp h1 q.1 (List.mem_map.mpr ⟨q, hq, rfl⟩))
    intro p hp q hq e
    rcases List.mem_cons.mp hp with z1 | z1
    · rcases List.mem_cons.mp hq with z2 | z2
      · rw [z1, z2]
      · rw [z1] at e
        exact absurd e (far q z2)
    · rcases List.mem_cons.mp hq with z2 | z2
      · rw [z2] at e
        exact absurd e.symm (far p z1)
      · exact ih h2 p z1 q z2 e
def obsK (y : Sys) (K : PySem.W.Frag) : Bool := (y.fa.all fun f => f.ok K) && ((y.fc.all fun f => f.ok K) && ((y.fn.all fun d => d.ok K) && apartB (y.tf.map fun p => (tabAt K (p.adr K)).2)))
abbrev AlC : Type := Bool × List He.FnW
def obsC (n : Nat) (y : Sys) (g : Addr → Option Obj) : AlC :=
  (obsK y (He.frT g (asC g n)) && tabsC g y.tf (He.frT g (asC g n)), y.fn.map fun d => fnWa (He.frT g (asC g n)) (d.at_.adr (He.frT g (asC g n))))
def valC (y : Sys) : AlC := (true, y.fn.map Df.val)
structure SaysC (y : Sys) (h : Heap) (K : PySem.W.Frag) : Prop where
  k : obsK y K = true
  d : (y.fn.map fun d => fnWa K (d.at_.adr K)) = y.fn.map Df.val
  hd : ∀ p ∈ y.tf, PySem.W.codeHdIn K (tabAt K (p.adr K)).1 (tabAt K (p.adr K)).2 = true
  out : ∀ p ∈ y.tf, K.lookup (tabAt K (p.adr K)).2 = none
  empty : ∀ p ∈ y.tf, h.get? (tabAt K (p.adr K)).2 = some { cls := .none, data := .fields #[] }
theorem saysC_of {n : Nat} {y : Sys} {h : Heap} (e : obsC n y h.get? = valC y) : SaysC y h (He.frT h.get? (asC h.get? n)) := by
  have e1 : (obsK y (He.frT h.get? (asC h.get? n)) && tabsC h.get? y.tf (He.frT h.get? (asC h.get? n))) = true := congrArg (fun z : AlC => z.1) e
  have e2 : (y.fn.map fun d => fnWa (He.frT h.get? (asC h.get? n)) (d.at_.adr (He.frT h.get? (asC h.get? n)))) = y.fn.map Df.val := congrArg (fun z : AlC => z.2) e
  obtain ⟨h1, h2⟩ := ba e1
  have key : ∀ p ∈ y.tf, PySem.W.codeHdIn (He.frT h.get? (asC h.get? n)) (tabAt (He.frT h.get? (asC h.get? n)) (p.adr (He.frT h.get? (asC h.get? n)))).1
      (tabAt (He.frT h.get? (asC h.get? n)) (p.adr (He.frT h.get? (asC h.get? n)))).2 = true ∧
      ∃ o, h.get? (tabAt (He.frT h.get? (asC h.get? n)) (p.adr (He.frT h.get? (asC h.get? n)))).2 = some o ∧ He.emptyTab o = true := fun p hp => by
    obtain ⟨h3, h4⟩ := ba (List.all_eq_true.mp h2 p hp)
    refine ⟨h3, ?_⟩
    split at h4
    · rename_i o q
      exact ⟨o, q, h4⟩
    · cases h4
  refine ⟨h1, e2, fun p hp => (key p hp).1, fun p hp => ?_, fun p hp => ?_⟩
  · obtain ⟨_, o, q, z⟩ := key p hp
    exact He.frT_none q z
  · obtain ⟨_, o, q, z⟩ := key p hp
    rw [q, He.emptyTab_eq z]
def hookC (n : Nat) (y : Sys) : PySem.W.Hook where
  α := AlC
  obs := fun s => obsC n y s.heap.get?
  val := fun _ => valC y
  says := fun _ h => ∃ K : PySem.W.Frag, K.In h ∧ SaysC y h K
  of := fun _ _ e => ⟨_, He.frT_in, saysC_of e⟩
  keeps := fun _ _ _ ⟨K, hK, c⟩ k => ⟨K, PySem.W.Frag.In.keeps hK k, ⟨c.k, c.d, c.hd, c.out, fun p hp => k _ _ (c.empty p hp)⟩⟩
theorem obsC_eq {n : Nat} {y : Sys} {g : Addr → Option Obj} {s : Shared} (h : ∀ a, g a = s.heap.get? a) : obsC n y g = (hookC n y).obs s := by
  have e : g = s.heap.get? := funext h
  rw [e] <;> rfl
/-- what a proof of a def leans on -/
structure HD (y : Sys) (K : PySem.W.Frag) (mg : Str → Option Value) : Prop where
  gl : ∀ (x : Str) (v : Option Value), PySem.W.nsIn K mainGlobals x = some v → mg x = v
  k : obsK y K = true
  d : (y.fn.map fun d => fnWa K (d.at_.adr K)) = y.fn.map Df.val
section
variable {y : Sys} {K : PySem.W.Frag} {mg : Str → Option Value}
theorem HD.of {h : Heap} (X : K.In h) (G : h.Ns mainGlobals mg) (c : SaysC y h K) : HD y K mg := ⟨fun x v e => by
  cases v with
  | none => exact PySem.W.mg_none_of X G e
  | some u => exact PySem.W.mg_of X G e, c.k, c.d⟩
theorem HD.fact (S : HD y K mg) (i : Nat) {f : He.Fa} (h : y.fa[i]? = some f := by rfl) : f.ok K = true := List.all_eq_true.mp (ba S.k).1 f (List.mem_of_getElem? h)
theorem HD.fcc (S : HD y K mg) (i : Nat) {f : Fc} (h : y.fc[i]? = some f := by rfl) : f.ok K = true := List.all_eq_true.mp (ba (ba S.k).2).1 f (List.mem_of_getElem? h)
theorem HD.glo (S : HD y K mg) {x : Str} (h : (He.Fa.glo x).ok K = true) : mg x = some (.ref (ga K x)) := S.gl _ _ (He.eqO_ok h)
theorem HD.bfun (S : HD y K mg) {x : Str} {id : String} (h : (Fc.bfun x id).ok K = true) : mg x = some (.builtin id) := S.gl _ _ (He.eqO_ok h)
theorem HD.free (S : HD y K mg) {x : Str} (h : (He.Fa.free x).ok K = true) : mg x = none := S.gl _ _ (He.eqO_ok h)
theorem HD.def_ (S : HD y K mg) (i : Nat) {d : Df} (h : y.fn[i]? = some d := by rfl) :
    FunD K d.name d.qual (defArgs d.st) (defBody d.st) (defScope d.st) (d.dvs K) [] (d.at_.adr K) (fdAt K (d.at_.adr K)) := by
  have e2 : (y.fn.map fun d => fnWa K (d.at_.adr K))[i]? = (y.fn.map Df.val)[i]? := by rw [S.d]
  rw [List.getElem?_map, List.getElem?_map, h] at e2
  exact Df.funD (Option.some.inj e2) (List.all_eq_true.mp (ba (ba (ba S.k).2).2).1 d (List.mem_of_getElem? h))
theorem HD.apart (S : HD y K mg) : apartB (y.tf.map fun p => (tabAt K (p.adr K)).2) = true := (ba (ba (ba S.k).2).2).2
end

/-! ### callees in short: what a call of the name x, of a method, of a class asks -/
/-- f(..) by the module's name x -/
def Cl (P : Program) (w : World) (K : PySem.W.Frag) (mg : Str → Option Value) (base : Heap) (CX : CXT) (k : Nat) (x : Str) (sp : Sp) : Prop :=
  ∃ f fd ps, FnOk P w K mg base CX k f fd ps sp ∧ mg x = some (.ref f) ∧ PySem.W.keepIn K (.ref f) = true ∧ Binds K fd ps []
def ClG (P : Program) (w : World) (K : PySem.W.Frag) (mg : Str → Option Value) (base : Heap) (CX : CXT) (k : Nat) (x : Str) (sp : Sp) : Prop :=
  ∃ f fd ps, FnOkG P w K mg base CX k f fd ps sp ∧ mg x = some (.ref f) ∧ PySem.W.keepIn K (.ref f) = true ∧ Binds K fd ps []
/-- o.m(..), o an instance of C -/
def Me (P : Program) (w : World) (K : PySem.W.Frag) (mg : Str → Option Value) (base : Heap) (CX : CXT) (k : Nat) (C : Addr) (m : Str) (sp : Sp) : Prop :=
  ∃ f fd ps, FnOk P w K mg base CX k f fd ps sp ∧ Cls K C ∧ Meth K C m f ∧ Binds K fd ps []
/-- C(..) -/
def Mke (P : Program) (w : World) (K : PySem.W.Frag) (mg : Str → Option Value) (base : Heap) (CX : CXT) (k : Nat) (x : Str) (sp : Sp) : Prop :=
  ∃ f fd ps, FnOk P w K mg base CX k f fd ps sp ∧ Mk K (ga K x) f ∧ mg x = some (.ref (ga K x)) ∧ Binds K fd ps []
section
variable {X : Cx} {CX : CXT} {j k : Nat} {x m : Str} {C : Addr} {sp : Sp} {E : XK} {p pos apos : Pos} {e o : Expr} {es : List Expr} {t : TA} {ta : TE}
theorem pe_f (c : Cl X.prog X.w X.K X.mg X.base CX k x sp) (hr : Room j X.A) (hk : k ≤ j) (hx : Passes CX X E) (ha : PA X (e :: es) t) (hg : Gl X x := by rfl)
    (hdb : (x == ("__debug__" : Str)) = false := by decide) (he : starEach (e :: es) X.env = (false, eval e X.env) :: starEach es X.env := by rfl)
    (hpl : (backTo pos (starEach es X.env)).any (·.1) = false := by rfl) : PE X (.Call (.Name x p) (e :: es) [] pos) (tCall sp [] E t) := by
  obtain ⟨f, fd, ps, F, hm, kp, b⟩ := c
  exact pe_call F (hr.mono hk) hg hm kp b .nil hx ha hdb he hpl
theorem pe_fG (c : ClG X.prog X.w X.K X.mg X.base CX k x sp) (hr : Room j X.A) (hk : k ≤ j) (hgd : X.A.guards = some []) (hx : Passes CX X E) (ha : PA X (e :: es) t) (hg : Gl X x := by rfl)
    (hdb : (x == ("__debug__" : Str)) = false := by decide) (he : starEach (e :: es) X.env = (false, eval e X.env) :: starEach es X.env := by rfl)
    (hpl : (backTo pos (starEach es X.env)).any (·.1) = false := by rfl) : PE X (.Call (.Name x p) (e :: es) [] pos) (tCall sp [] E t) := by
  obtain ⟨f, fd, ps, F, hm, kp, b⟩ := c
  exact pe_callG F (hr.mono hk) hgd hg hm kp b .nil hx ha hdb he hpl
theorem pe_me {pl : Sem Bool} (c : Me X.prog X.w X.K X.mg X.base CX k C m sp) (hr : Room j X.A) (hk : k ≤ j) (hx : Passes CX X E) (ho : PE X o ta) (ha : PA X (e :: es) t)
    (hst : starEach (e :: es) X.env = (false, eval e X.env) :: starEach es X.env := by rfl) (hpl : (backTo pos (starEach es X.env)).any (·.1) = false := by rfl)
    (ht : eval (.Call (.Attribute o m apos) (e :: es) [] pos) X.env = (do
      let ov ← eval o X.env
      standAt apos.atName
      let (f, first) ← holding [ov] (getMethod ov m pl)
      callWith pos f first (backTo pos (starEach (e :: es) X.env)) (backToKw pos (keywordEach [] X.env))) := by rfl) :
    PE X (.Call (.Attribute o m apos) (e :: es) [] pos) (tMeth C m sp [] E ta t) := by
  obtain ⟨f, fd, ps, F, cl, hm, b⟩ := c
  exact pe_meth ho cl hm F (hr.mono hk) b .nil hx ha hst hpl ht
theorem pe_me0 {pl : Sem Bool} (c : Me X.prog X.w X.K X.mg X.base CX k C m sp) (hr : Room j X.A) (hk : k ≤ j) (hx : Passes CX X E) (ho : PE X o ta)
    (ht : eval (.Call (.Attribute o m apos) [] [] pos) X.env = (do
      let ov ← eval o X.env
      standAt apos.atName
      let (f, first) ← holding [ov] (getMethod ov m pl)
      callWith pos f first (backTo pos (starEach [] X.env)) (backToKw pos (keywordEach [] X.env))) := by rfl) :
    PE X (.Call (.Attribute o m apos) [] [] pos) (tMeth C m sp [] E ta tNil) := by
  obtain ⟨f, fd, ps, F, cl, hm, b⟩ := c
  exact pe_meth0 ho cl hm F (hr.mono hk) b .nil hx ht
theorem pe_mke (c : Mke X.prog X.w X.K X.mg X.base CX k x sp) (hr : Room j X.A) (hk : k + 1 ≤ j) (hx : Passes CX X E) (ha : PA X (e :: es) t) (hg : Gl X x := by rfl)
    (hdb : (x == ("__debug__" : Str)) = false := by decide) (he : starEach (e :: es) X.env = (false, eval e X.env) :: starEach es X.env := by rfl)
    (hpl : (backTo pos (starEach es X.env)).any (·.1) = false := by rfl) : PE X (.Call (.Name x p) (e :: es) [] pos) (tMake (ga X.K x) sp [] E t) := by
  obtain ⟨f, fd, ps, F, M, hm, b⟩ := c
  exact pe_make M F (hr.mono hk) hg hm b .nil hx ha hdb he hpl
end
end CT
namespace CT
open PySem PySem.Spec PyProof.Rows L2
open He (ga ma fAd)

/-! ### readings, step by step -/
section
variable {σ : St} {H : Hp} {Q : VK} {v : V} {D : Ends} {K : PySem.W.Frag}
theorem go_var {i : Nat} (h : σ[i]? = some (some v)) (k : Q v H) : tVar i σ H Q := ⟨v, h, k⟩
theorem go_c (k : Q v H) : tC v σ H Q := k
theorem go_op {r : R2} {ta tb : TE} (k : ta σ H fun x H1 => tb σ H1 fun y H2 => r x y H2 Q) : tOp r ta tb σ H Q := k
theorem go_un {r : V → Hp → VK → Prop} {ta : TE} (k : ta σ H fun x H1 => r x H1 Q) : tUn r ta σ H Q := k
theorem go_u {g : Int → V} {i : Int} (k : Q (g i) H) : rU g (.int i) H Q := ⟨i, rfl, k⟩
theorem go_i0 {g : Int → Int → V} {i j : Int} (k : Q (g i j) H) : rI0 g (.int i) (.int j) H Q := ⟨i, j, rfl, rfl, k⟩
theorem go_i {C : Int → Int → Prop} {g : Int → Int → V} {i j : Int} (c : C i j) (k : Q (g i j) H) : rI C g (.int i) (.int j) H Q := ⟨i, j, rfl, rfl, c, k⟩
theorem go_pow {i j r : Int} (c : CPow i j) (e : i ^ j.toNat = r) (k : Q (.int r) H) : rI CPow (fun i j => .int (i ^ j.toNat)) (.int i) (.int j) H Q := by
  subst e
  exact ⟨i, j, rfl, rfl, c, k⟩
theorem go_test {t : TE} {R : Bool → Hp → Prop} (k : t σ H fun x H' => ∃ k, x = .bl k ∧ R k H') : tTest t σ H R := k
theorem go_B {t : TE} {R : Bool → Hp → Prop} (k : t σ H fun x H' => ∃ k, x = .bl k ∧ R k H') : tB t σ H R := k
theorem go_k {b : Bool} {R : Bool → Prop} (k : R b) : ∃ k, V.bl b = .bl k ∧ R k := ⟨b, rfl, k⟩
theorem go_and {t u : TT} {R : Bool → Hp → Prop} (k : t σ H fun c H1 => if c = true then u σ H1 R else R false H1) : tAnd t u σ H R := k
theorem go_or {t u : TT} {R : Bool → Hp → Prop} (k : t σ H fun c H1 => if c = true then R true H1 else u σ H1 R) : tOr t u σ H R := k
theorem go_not {t : TT} {R : Bool → Hp → Prop} (k : t σ H fun c H1 => R (!c) H1) : tNot t σ H R := k
theorem go_andV {ta tb : TE} (k : ta σ H fun x H1 => ∃ c, x = .bl c ∧ if c = true then tb σ H1 Q else Q (.bl false) H1) : tAndV ta tb σ H Q := k
theorem go_orV {ta tb : TE} (k : ta σ H fun x H1 => ∃ c, x = .bl c ∧ if c = true then Q (.bl true) H1 else tb σ H1 Q) : tOrV ta tb σ H Q := k
theorem go_notV {ta : TE} (k : ta σ H fun x H1 => ∃ c, x = .bl c ∧ Q (.bl (!c)) H1) : tNotV ta σ H Q := k
theorem go_if {t : TT} {ta tb : TE} (k : t σ H fun c H1 => if c = true then ta σ H1 Q else tb σ H1 Q) : L2.tIf t ta tb σ H Q := k
theorem go_ifS {c : TT} {t u : TS} (k : c σ H fun b H1 => if b = true then t D σ H1 else u D σ H1) : tIfS c t u D σ H := k
theorem go_seq {t u : TS} (k : t { D with nx := u D } σ H) : tSeq t u D σ H := k
theorem go_next (k : D.nx σ H) : tNext D σ H := k
theorem go_asg {te : TE} {g : TG} (k : te σ H fun x H1 => g x σ H1 D.nx) : tAsg te g D σ H := k
theorem go_name {i : Nat} {σ' : St} {R : St → Hp → Prop} (h : σ.set i (some v) = σ') (k : R σ' H) : gName i v σ H R := by
  subst h
  exact k
theorem go_ret {te : TE} (k : te σ H D.rt) : tRet te D σ H := k
theorem go_retN (k : D.rt .non H) : tRetN D σ H := k
theorem go_drop {te : TE} (k : te σ H fun _ H1 => D.nx σ H1) : tDrop te D σ H := k
theorem go_call {sp : Sp} {E : XK} {t : TA} (k : t σ H fun vs H1 => sp (vs ++ []) H1 Q E) : tCall sp [] E t σ H Q := k
theorem go_cb {r : List V → Hp → VK → Prop} {t : TA} (k : t σ H fun vs H1 => r vs H1 Q) : tCB r t σ H Q := k
theorem go_nil {R : List V → Hp → Prop} (k : R [] H) : tNil σ H R := k
theorem go_cons {ta : TE} {tr : TA} {R : List V → Hp → Prop} (k : ta σ H fun x H1 => tr σ H1 fun xs H2 => R (x :: xs) H2) : tCons ta tr σ H R := k
def rNewL (xs : List V) (H : Hp) (Q : VK) : Prop := xs.length ≤ sizeLine ∧ ∀ p, H p = none → Q (.ref p) (upd H p (.lst xs))
def rNewT (xs : List V) (H : Hp) (Q : VK) : Prop := xs.length ≤ sizeLine ∧ ∀ p, H p = none → Q (.ref p) (upd H p (.tup xs))
theorem go_lst {t : TA} (k : t σ H fun xs H1 => rNewL xs H1 Q) : tLst t σ H Q := k
theorem go_tup {t : TA} (k : t σ H fun xs H1 => rNewT xs H1 Q) : tTup t σ H Q := k
theorem newL_raw {xs : List V} (h : xs.length ≤ 1000) (k : ∀ p, H p = none → Q (.ref p) (upd H p (.lst xs))) : rNewL xs H Q := ⟨Nat.le_of_lt (small1000 h), k⟩
theorem newT_raw {xs : List V} (h : xs.length ≤ 1000) (k : ∀ p, H p = none → Q (.ref p) (upd H p (.tup xs))) : rNewT xs H Q := ⟨Nat.le_of_lt (small1000 h), k⟩
theorem go_sz {n : Nat} {R : Addr → Prop} (h : n ≤ 1000) (k : ∀ p, H p = none → R p) : n ≤ sizeLine ∧ ∀ p, H p = none → R p := ⟨Nat.le_of_lt (small1000 h), k⟩
def rFld (K : PySem.W.Frag) (f : Str) (x : V) (H : Hp) (Q : VK) : Prop := ∃ a C dx fs v, x = .ref a ∧ H a = some (.ins C dx fs) ∧ Cls K C ∧ NoAttr K C f ∧ fs.lookup f = some v ∧ Q v H
theorem go_fld {ta : TE} {f : Str} (k : ta σ H fun x H1 => rFld K f x H1 Q) : tFld K ta f σ H Q := k
def par2 (i j : Nat) (σ : St) (vs : List V) (R : St → Prop) : Prop := ∃ v w, vs = [v, w] ∧ R ((σ.set i (some v)).set j (some w))
theorem go_par {i j : Nat} {ta : TA} (k : ta σ H fun vs H1 => par2 i j σ vs fun σ' => D.nx σ' H1) : tPar i j ta D σ H := k
theorem go_par2 {i j : Nat} {u w : V} {σ' : St} {R : St → Prop} (h : (σ.set i (some u)).set j (some w) = σ') (k : R σ') : par2 i j σ [u, w] R := by
  subst h
  exact ⟨u, w, rfl, k⟩
theorem go_start {σ' : St} {t : TS} (e : σ = σ') (h : t D σ' H) : t D σ H := by
  subst e
  exact h
theorem cxOf_K {CX : CXT} {P : Program} {w : World} {mg : Str → Option Value} {base : Heap} {N : List Str} {qual : Str} {scope : Scope} {f : Addr} {cd : Value} {A : Around} {outer : List Env} {s : Shared} {E : XK} :
    (cxOf CX P w K mg base N qual scope f cd A outer s H E).K = K := rfl
theorem go_slL {te : TE} {tl th : TO} {p : Addr} {xs : List V} (k : te σ H fun x H1 => tl σ H1 fun l H2 => th σ H2 fun u H3 => rSlL K x l u H3 Q) : tSl (rSlL K) te tl th σ H Q := k
theorem go_part {t : TE} {R : Option Int → Hp → Prop} (k : t σ H fun x H1 => ∃ i, x = .int i ∧ R (some i) H1) : tPart t σ H R := k
theorem go_i1 {i : Int} {R : Int → Prop} (k : R i) : ∃ j, V.int i = .int j ∧ R j := ⟨i, rfl, k⟩
theorem go_nopart {R : Option Int → Hp → Prop} (k : R none H) : tNoPart σ H R := k
theorem go_sl {r : V → Option Int → Option Int → Hp → VK → Prop} {te : TE} {tl th : TO} (k : te σ H fun x H1 => tl σ H1 fun l H2 => th σ H2 fun u H3 => r x l u H3 Q) : tSl r te tl th σ H Q := k
theorem go_rsl {a : Addr} {lo hi : Option Int} {xs : List V} (h : SqL K H a xs) (k : ∀ p, H p = none → Q (.ref p) (upd H p (.lst (cutV xs lo hi)))) : rSlL K (.ref a) lo hi H Q := ⟨a, xs, rfl, h, k⟩
theorem go_isi {x c : V} {u t : Value} {b : Bool} (h : ClsV c u) (ty : TyX K H x t) (e : PySem.W.kitOne K t u = some b) (k : Q (.bl b) H) : rIsi K [x, c] H Q := ⟨x, c, t, u, b, rfl, h, ty, e, k⟩
theorem bl_of {R : V → Prop} {x y : Bool} (e : x = y) (k : R (.bl y)) : R (.bl x) := e ▸ k
theorem int_of {R : V → Prop} {x y : Int} (e : x = y) (k : R (.int y)) : R (.int x) := e ▸ k
theorem go_fldx {a C dx : Addr} {fs : List (Str × V)} {f : Str} (h : H a = some (.ins C dx fs)) (c : Cls K C) (n : NoAttr K C f) (l : fs.lookup f = some v) (k : Q v H) : rFld K f (.ref a) H Q := ⟨a, C, dx, fs, v, rfl, h, c, n, l, k⟩
def rLstOf (K : PySem.W.Frag) : List V → Hp → VK → Prop := fun xs H Q => ∃ p ys, xs = [.ref p] ∧ (SqL K H p ys ∨ SqT K H p ys) ∧ ∀ l, H l = none → Q (.ref l) (upd H l (.lst ys))
theorem go_cbLst {t : TA} (k : t σ H fun vs H1 => rLstOf K vs H1 Q) : tCB (fun xs H Q => ∃ p ys, xs = [.ref p] ∧ (SqL K H p ys ∨ SqT K H p ys) ∧ ∀ l, H l = none → Q (.ref l) (upd H l (.lst ys))) t σ H Q := k
theorem go_lstof {a : Addr} {ys : List V} (h : SqL K H a ys ∨ SqT K H a ys) (k : ∀ l, H l = none → Q (.ref l) (upd H l (.lst ys))) : rLstOf K [.ref a] H Q := ⟨a, ys, rfl, h, k⟩
def rLen (K : PySem.W.Frag) : List V → Hp → VK → Prop := fun xs H Q => ∃ p ys, xs = [.ref p] ∧ (SqL K H p ys ∨ SqT K H p ys) ∧ Q (.int ys.length) H
theorem go_cbLen {t : TA} (k : t σ H fun vs H1 => rLen K vs H1 Q) : tCB (fun xs H Q => ∃ p ys, xs = [.ref p] ∧ (SqL K H p ys ∨ SqT K H p ys) ∧ Q (.int ys.length) H) t σ H Q := k
theorem go_len {a : Addr} {ys : List V} (h : SqL K H a ys ∨ SqT K H a ys) (k : Q (.int ys.length) H) : rLen K [.ref a] H Q := ⟨a, ys, rfl, h, k⟩
def rIntOf : List V → Hp → VK → Prop := fun xs H Q => (∃ i, xs = [.int i] ∧ Q (.int i) H) ∨ ∃ k, xs = [.bl k] ∧ Q (.int (if k = true then 1 else 0)) H
theorem go_cbInt {t : TA} (k : t σ H fun vs H1 => rIntOf vs H1 Q) : tCB (fun xs H Q => (∃ i, xs = [.int i] ∧ Q (.int i) H) ∨ ∃ k, xs = [.bl k] ∧ Q (.int (if k = true then 1 else 0)) H) t σ H Q := k
theorem go_int {i : Int} (k : Q (.int i) H) : rIntOf [.int i] H Q := .inl ⟨i, rfl, k⟩
theorem go_intb {b : Bool} (k : Q (.int (if b = true then 1 else 0)) H) : rIntOf [.bl b] H Q := .inr ⟨b, rfl, k⟩
def rBoolOf : List V → Hp → VK → Prop := fun xs H Q => (∃ i, xs = [.int i] ∧ Q (.bl (i != 0)) H) ∨ ∃ k, xs = [.bl k] ∧ Q (.bl k) H
theorem go_cbBool {t : TA} (k : t σ H fun vs H1 => rBoolOf vs H1 Q) : tCB (fun xs H Q => (∃ i, xs = [.int i] ∧ Q (.bl (i != 0)) H) ∨ ∃ k, xs = [.bl k] ∧ Q (.bl k) H) t σ H Q := k
theorem go_booli {i : Int} (k : Q (.bl (i != 0)) H) : rBoolOf [.int i] H Q := .inl ⟨i, rfl, k⟩
theorem go_boolb {b : Bool} (k : Q (.bl b) H) : rBoolOf [.bl b] H Q := .inr ⟨b, rfl, k⟩
def rAbs : List V → Hp → VK → Prop := fun xs H Q => ∃ i, xs = [.int i] ∧ Q (.int (if i < 0 then -i else i)) H
theorem go_cbAbs {t : TA} (k : t σ H fun vs H1 => rAbs vs H1 Q) : tCB (fun xs H Q => ∃ i, xs = [.int i] ∧ Q (.int (if i < 0 then -i else i)) H) t σ H Q := k
theorem go_abs {i : Int} (k : Q (.int (if i < 0 then -i else i)) H) : rAbs [.int i] H Q := ⟨i, rfl, k⟩
def rMax2 : List V → Hp → VK → Prop := fun xs H Q => ∃ i j, xs = [.int i, .int j] ∧ Q (.int (if i < j then j else i)) H
theorem go_cbMax {t : TA} (k : t σ H fun vs H1 => rMax2 vs H1 Q) : tCB (fun xs H Q => ∃ i j, xs = [.int i, .int j] ∧ Q (.int (if j > i then j else i)) H) t σ H Q := k
theorem go_max {i j : Int} (k : Q (.int (if i < j then j else i)) H) : rMax2 [.int i, .int j] H Q := ⟨i, j, rfl, k⟩
def rMin2 : List V → Hp → VK → Prop := fun xs H Q => ∃ i j, xs = [.int i, .int j] ∧ Q (.int (if j < i then j else i)) H
theorem go_cbMin {t : TA} (k : t σ H fun vs H1 => rMin2 vs H1 Q) : tCB (fun xs H Q => ∃ i j, xs = [.int i, .int j] ∧ Q (.int (if j < i then j else i)) H) t σ H Q := k
theorem go_min {i j : Int} (k : Q (.int (if j < i then j else i)) H) : rMin2 [.int i, .int j] H Q := ⟨i, j, rfl, k⟩
theorem go_dec {c A B : Prop} [Decidable c] (h1 : c → A) (h2 : ¬ c → B) : if decide c = true then A else B := by
  by_cases h : c
  · rw [decide_eq_true h]
    exact iteT (h1 h)
  · rw [decide_eq_false h]
    exact iteF (h2 h)
theorem go_ndec {c A B : Prop} [Decidable c] (h1 : ¬ c → A) (h2 : c → B) : if (!decide c) = true then A else B := by
  by_cases h : c
  · rw [decide_eq_true h]
    exact iteF (h2 h)
  · rw [decide_eq_false h]
    exact iteT (h1 h)
theorem go_b {b : Bool} {A B : Prop} (h1 : b = true → A) (h2 : b = false → B) : if b = true then A else B := by
  cases b
  · exact iteF (h2 rfl)
  · exact iteT (h1 rfl)
theorem go_nb {b : Bool} {A B : Prop} (h1 : b = false → A) (h2 : b = true → B) : if (!b) = true then A else B := by
  cases b
  · exact iteT (h1 rfl)
  · exact iteF (h2 rfl)
theorem go_nT {A B : Prop} (k : B) : if (!true) = true then A else B := iteF k
theorem go_nF {A B : Prop} (k : A) : if (!false) = true then A else B := iteT k
theorem go_seqR {t u : TS} (R : St → Hp → Prop) (h : ∀ σ' H', R σ' H' → u D σ' H') (k : (∀ σ' H', R σ' H' → u D σ' H') → t { D with nx := u D } σ H) : tSeq t u D σ H := k h
theorem go_setL {p : Addr} {xs xs' : List V} {i : Int} {j : Nat} {R : Hp → Prop} (h : H p = some (.lst xs)) (ij : ixN xs.length i = some j) (e : xs.set j v = xs') (k : R (upd H p (.lst xs'))) :
    rSetL (.ref p) (.int i) v H R := by
  subst e
  exact ⟨p, xs, i, j, rfl, rfl, h, ij, k⟩
theorem go_sub {to ti : TE} {t : TSet} {R : St → Hp → Prop} (k : to σ H fun o H1 => ti σ H1 fun i H2 => t o i v H2 fun H3 => R σ H3) : gSub to ti t v σ H R := k
theorem go_ixl {p : Addr} {xs : List V} {i : Int} (h : SqL K H p xs) (a : atI xs i = some v) (k : Q v H) : rIxL K (.ref p) (.int i) H Q := ⟨p, xs, i, v, rfl, rfl, h, a, k⟩
theorem go_ixt {p : Addr} {xs : List V} {i : Int} (h : SqT K H p xs) (a : atI xs i = some v) (k : Q v H) : rIxT K (.ref p) (.int i) H Q := ⟨p, xs, i, v, rfl, rfl, h, a, k⟩
theorem go_eq {x y : V} (s : scal x y = true) (k : Q (.bl (decide (x = y))) H) : rEq x y H Q := ⟨s, k⟩
theorem go_ne {x y : V} (s : scal x y = true) (k : Q (.bl (!decide (x = y))) H) : rNe x y H Q := ⟨s, k⟩
theorem go_chain {r r' : R2} {ta tb tc : TE} (k : ta σ H fun x H1 => tb σ H1 fun y H2 => r x y H2 fun z H3 => ∃ k, z = .bl k ∧ (if k = true then tc σ H3 fun w' H4 => r' y w' H4 Q else Q (.bl false) H3)) : tChain r r' ta tb tc σ H Q := k
theorem go_inc {W P : Prop} (k : P) (h : P → W) : W := h k
end

/-! ### what stays -/
/-- all that was tracked is as it was, but for what stands at p -/
def Kp (p : Addr) (H H' : Hp) : Prop := ∀ b o, H b = some o → b ≠ p → H' b = some o
theorem Kp.refl (p : Addr) (H : Hp) : Kp p H H := fun _ _ h _ => h
theorem Kp.trans {p : Addr} {H H1 H2 : Hp} (a : Kp p H H1) (b : Kp p H1 H2) : Kp p H H2 := fun c o h n => b c o (a c o h n) n
theorem Kp.new {p q : Addr} {H : Hp} {o : HO} (n : H q = none) : Kp p H (upd H q o) := fun b u h _ => (upd_ne (ne_of_none h n)).trans h
theorem Kp.put {p : Addr} {H : Hp} {o : HO} : Kp p H (upd H p o) := fun b u h n => (upd_ne n).trans h
theorem Same.kp {p : Addr} {H H' : Hp} (s : Same H H') : Kp p H H' := fun b o h _ => s b o h
theorem Kp.seqL {p a : Addr} {K : PySem.W.Frag} {H H' : Hp} {xs : List V} (e : Kp p H H') (h : SqL K H a xs) (n : a ≠ p) : SqL K H' a xs := by
  rcases h with (h | ⟨o, h⟩) | h
  · exact .inl (.inl (e _ _ h n))
  · exact .inl (.inr ⟨o, e _ _ h n⟩)
  · exact .inr h
theorem Kp.seqT {p a : Addr} {K : PySem.W.Frag} {H H' : Hp} {xs : List V} (e : Kp p H H') (h : SqT K H a xs) (n : a ≠ p) : SqT K H' a xs := by
  rcases h with (h | ⟨o, h⟩) | h
  · exact .inl (.inl (e _ _ h n))
  · exact .inl (.inr ⟨o, e _ _ h n⟩)
  · exact .inr h
theorem upd_here {H : Hp} {p : Addr} {o : HO} (_ : H p = none) : upd H p o p = some o := upd_same
theorem upd_keep {H : Hp} {p b : Addr} {o u : HO} (n : H p = none) (h : H b = some u) : upd H p o b = some u := (upd_ne (ne_of_none h n)).trans h
theorem same_at {H H' : Hp} {a : Addr} {o : HO} (s : Same H H') (h : H a = some o) : H' a = some o := s a o h
theorem kp_at {p : Addr} {H H' : Hp} {a : Addr} {o : HO} (s : Kp p H H') (n : a ≠ p) (h : H a = some o) : H' a = some o := s a o h n
theorem upd_at {H : Hp} {l a : Addr} {o u : HO} (n : a ≠ l) (h : H a = some o) : upd H l u a = some o := (upd_ne n).trans h
theorem Same.new {q : Addr} {H : Hp} {o : HO} (n : H q = none) : Same H (upd H q o) := fun b u h => upd_keep n h

theorem HD.int {y : Sys} {K : PySem.W.Frag} {mg : Str → Option Value} (S : HD y K mg) {x : Str} {i : Int} (c : (He.Fa.int x i).ok K = true) : ∃ t, mg x = some (.int i t) := by
  have c2 : (match PySem.W.nsIn K mainGlobals x with
    | some (some (.int j _)) => decide (j = i)
    | _ => false) = true := c
  split at c2
  · rename_i j t e
    have ej : j = i := of_decide_eq_true c2
    subst ej
    exact ⟨t, S.gl _ _ e⟩
  · cases c2

/-! ### operators and properties by bundles; calls without arguments -/
def Op (P : Program) (w : World) (K : PySem.W.Frag) (mg : Str → Option Value) (base : Heap) (CX : CXT) (k : Nat) (C : Addr) (m : Str) (sp : Sp) : Prop :=
  ∃ f fd ps, FnOk P w K mg base CX k f fd ps sp ∧ PySem.W.findIn K (.ref C) m = some (some (.ref f)) ∧ PySem.W.isFn K (.ref f) = true ∧ Binds K fd ps []
def Pr (P : Program) (w : World) (K : PySem.W.Frag) (mg : Str → Option Value) (base : Heap) (CX : CXT) (k : Nat) (C : Addr) (m : Str) (sp : Sp) : Prop :=
  ∃ p f fd ps, FnOk P w K mg base CX k f fd ps sp ∧ Cls K C ∧ PropOf K C m p f ∧ Binds K fd ps []
section
variable {X : Cx} {CX : CXT} {j k : Nat} {x m : Str} {C : Addr} {sp : Sp} {E : XK} {p pos apos : Pos} {e o : Expr} {es : List Expr} {t : TA} {ta : TE}
theorem op_own {op : CmpOp} (c : Op X.prog X.w X.K X.mg X.base CX k C (cmpInfo op).2.1 sp) (hop : ∀ a b, compareOp op a b = richCompare op a b) (hr : Room j X.A) (hk : k ≤ j) (hx : Passes CX X E) :
    OpR X (compareOp op) (rOwnC X.K C sp E) := by
  obtain ⟨f, fd, ps, F, h1, h2, b⟩ := c
  exact op_ownC hop h1 h2 F b (hr.mono hk) hx
theorem op_neq (c : Op X.prog X.w X.K X.mg X.base CX k C "__eq__" sp) (hne : PySem.W.findIn X.K (.ref C) "__ne__" = some (some (.builtin "object.__ne__"))) (hm : PySem.W.mroIn X.K C (.type "object") = some true)
    (hr : Room j X.A) (hk : k + 1 ≤ j) (hx : Passes CX X E) : OpR X (compareOp .NotEq) (rNeC X.K C sp E) := by
  obtain ⟨f, fd, ps, F, h1, h2, b⟩ := c
  exact op_neC hne hm h1 h2 F b (hr.mono hk) hx
theorem pe_f0 (c : Cl X.prog X.w X.K X.mg X.base CX k x sp) (hr : Room j X.A) (hk : k ≤ j) (hx : Passes CX X E) (hg : Gl X x := by rfl) (hdb : (x == ("__debug__" : Str)) = false := by decide) :
    PE X (.Call (.Name x p) [] [] pos) (tCall sp [] E tNil) := by
  obtain ⟨f, fd, ps, F, hm, kp, b⟩ := c
  exact pe_call0 F (hr.mono hk) hg hm kp b .nil hx hdb
theorem pe_prp (c : Pr X.prog X.w X.K X.mg X.base CX k C m sp) (hr : Room j X.A) (hk : k + 1 ≤ j) (hx : Passes CX X.nox E) (he : PE X e ta)
    (hab : attributeBase e m X.env (eval e X.env) = eval e X.env := by rfl) : PE X (.Attribute e m pos) (tProp C sp [] E ta) := by
  obtain ⟨q, f, fd, ps, F, cl, hp, b⟩ := c
  exact pe_prop he cl hp F (hr.mono hk) b .nil hx hab
end

/-! ### new objects, the heap behind them by a letter -/
section
variable {H : Hp} {Q : VK} {K : PySem.W.Frag}
theorem newL {xs : List V} (h : xs.length ≤ 1000) (k : ∀ p H', H p = none → Same H H' → H' p = some (.lst xs) → Q (.ref p) H') : rNewL xs H Q := newL_raw h fun p n => k p _ n (Same.new n) upd_same
theorem newT {xs : List V} (h : xs.length ≤ 1000) (k : ∀ p H', H p = none → Same H H' → H' p = some (.tup xs) → Q (.ref p) H') : rNewT xs H Q := newT_raw h fun p n => k p _ n (Same.new n) upd_same
theorem newSl {a : Addr} {lo hi : Option Int} {xs ys : List V} (h : SqL K H a xs) (e : cutV xs lo hi = ys) (k : ∀ p H', H p = none → Same H H' → H' p = some (.lst ys) → Q (.ref p) H') : rSlL K (.ref a) lo hi H Q := by
  subst e
  exact ⟨a, xs, rfl, h, fun p n => k p _ n (Same.new n) upd_same⟩
theorem newLstOf {a : Addr} {ys : List V} (h : SqL K H a ys ∨ SqT K H a ys) (k : ∀ l H', H l = none → Same H H' → H' l = some (.lst ys) → Q (.ref l) H') : rLstOf K [.ref a] H Q := ⟨a, ys, rfl, h, fun p n => k p _ n (Same.new n) upd_same⟩
theorem newCat {a b : Addr} {xs ys zs : List V} (ha : H a = some (.lst xs)) (hb : H b = some (.lst ys)) (sz : zs.length ≤ 100000) (e : xs ++ ys = zs) (k : ∀ l H', H l = none → Same H H' → H' l = some (.lst zs) → Q (.ref l) H') : rCat (.ref a) (.ref b) H Q := by
  subst e
  rw [List.length_append] at sz
  exact ⟨a, b, xs, ys, rfl, rfl, ha, hb, Nat.le_trans sz (by decide), fun p n => k p _ n (Same.new n) upd_same⟩
end

/-! ### fields -/
theorem lk_here {k : Str} {v : V} {r : List (Str × V)} : List.lookup k ((k, v) :: r) = some v := by
  have e : (k == k) = true := beq_self_eq_true k
  simp only [List.lookup, e]
theorem lk_skip {k g : Str} {v w : V} {r : List (Str × V)} (h : (k == g) = false) (q : List.lookup k r = some v) : List.lookup k ((g, w) :: r) = some v := by
  simp only [List.lookup, h]
  exact q
theorem lk_nil {k : Str} : List.lookup k ([] : List (Str × V)) = none := rfl
theorem lk_no {k g : Str} {w : V} {r : List (Str × V)} (h : (k == g) = false) (q : List.lookup k r = none) : List.lookup k ((g, w) :: r) = none := by
  simp only [List.lookup, h]
  exact q
theorem put_nil {f : Str} {v : V} : putF f v [] = [(f, v)] := rfl
theorem put_here {f : Str} {v x : V} {r : List (Str × V)} : putF f v ((f, x) :: r) = (f, v) :: r := if_pos rfl
theorem put_skip {f g : Str} {v x : V} {r r' : List (Str × V)} (h : ¬ g = f) (q : putF f v r = r') : putF f v ((g, x) :: r) = (g, x) :: r' := (if_neg h).trans (congrArg _ q)
def rSFld (K : PySem.W.Frag) (f : Str) (y x : V) (H : Hp) (R : Hp → Prop) : Prop := ∃ a C dx fs, x = .ref a ∧ H a = some (.ins C dx fs) ∧ Cls K C ∧ NoAttr K C f ∧ fs.length < 1000 ∧ R (upd H a (.ins C dx (putF f y fs)))
theorem go_sfld {K : PySem.W.Frag} {σ : St} {H : Hp} {D : Ends} {ta tv : TE} {f : Str} (k : tv σ H fun y H1 => ta σ H1 fun x H2 => rSFld K f y x H2 (D.nx σ)) : sFld K ta tv f D σ H := k
theorem go_sfldx {K : PySem.W.Frag} {H : Hp} {a C dx : Addr} {fs fs' : List (Str × V)} {f : Str} {y : V} {R : Hp → Prop} (h : H a = some (.ins C dx fs)) (c : Cls K C) (n : NoAttr K C f) (e : putF f y fs = fs') (l : fs.length < 1000)
    (k : R (upd H a (.ins C dx fs'))) : rSFld K f y (.ref a) H R := by
  subst e
  exact ⟨a, C, dx, fs, rfl, h, c, n, l, k⟩

def rCVal (K : PySem.W.Frag) (f : Str) (x : V) (H : Hp) (Q : VK) : Prop := ∃ C mc v u, x = .ref C ∧ ClX.CRead K C mc ∧ ClX.CVal K C mc f v u ∧ Q v H
theorem go_cval {K : PySem.W.Frag} {σ : St} {H : Hp} {Q : VK} {ta : TE} {f : Str} (k : ta σ H fun x H1 => rCVal K f x H1 Q) : ClX.tCVal K ta f σ H Q := k
theorem go_cvalx {K : PySem.W.Frag} {H : Hp} {Q : VK} {C : Addr} {mc u : Value} {v : V} {f : Str} (c : ClX.CRead K C mc) (d : ClX.CVal K C mc f v u) (k : Q v H) : rCVal K f (.ref C) H Q := ⟨C, mc, v, u, rfl, c, d, k⟩

/-! ### data of numbers -/
theorem dpInts {K : PySem.W.Frag} {H : Hp} : ∀ ns : List Int, DpAll K H (ns.map V.int) (ns.map PyData.int)
  | [] => .nil
  | n :: ns => .cons (.int n) (dpInts ns)
theorem layInts : ∀ ns : List Int, PyData.canLayAll0 (ns.map PyData.int) = true
  | [] => rfl
  | n :: ns => by
    show PyData.canLayAll0 (PyData.int n :: ns.map PyData.int) = true
    rw [PyData.canLayAll0, layInts ns]
    rfl
theorem depthInts : ∀ ns : List Int, PyData.depthAll (ns.map PyData.int) ≤ 1
  | [] => by decide
  | n :: ns => by
    have h := depthInts ns
    show PyData.depthAll (PyData.int n :: ns.map PyData.int) ≤ 1
    rw [PyData.depthAll]
    have e : (PyData.int n).depth ≤ 1 := by rw [PyData.depth]; omega
    omega
theorem shInts (ns : List Int) : SeqAt.shaped (.list (ns.map PyData.int)) = true := by
  unfold SeqAt.shaped
  rw [PyData.canLay0, layInts, PyData.depth]
  have := depthInts ns
  simp
  omega
theorem eqvInts : ∀ ns ms : List Int, PyData.eqvAll (ns.map PyData.int) (ms.map PyData.int) = decide (ns = ms)
  | [], [] => by rw [List.map_nil, PyData.eqvAll]; rfl
  | [], _ :: _ => by rw [List.map_nil, List.map_cons, PyData.eqvAll]; rfl
  | _ :: _, [] => by rw [List.map_nil, List.map_cons, PyData.eqvAll]; rfl
  | n :: ns, m :: ms => by
    rw [List.map_cons, List.map_cons, PyData.eqvAll, eqvInts ns ms, PyData.eqv]
    by_cases h : n = m
    · by_cases h2 : ns = ms
      · subst h h2; simp
      · simp [h, h2]
    · simp [h]
theorem go_neInts {K : PySem.W.Frag} {H : Hp} {Q : VK} {a b : Addr} {ns ms : List Int} (ha : SqL K H a (ns.map V.int)) (hb : SqL K H b (ms.map V.int)) (k : Q (.bl (!decide (ns = ms))) H) :
    rNeD K (.ref a) (.ref b) H Q := by
  refine ⟨_, _, .lst ha (dpInts ns), .lst hb (dpInts ms), shInts ns, shInts ms, ?_⟩
  rw [PyData.eqv, eqvInts]
  exact k
theorem go_eqInts {K : PySem.W.Frag} {H : Hp} {Q : VK} {a b : Addr} {ns ms : List Int} (ha : SqL K H a (ns.map V.int)) (hb : SqL K H b (ms.map V.int)) (k : Q (.bl (decide (ns = ms))) H) :
    rEqD K (.ref a) (.ref b) H Q := by
  refine ⟨_, _, .lst ha (dpInts ns), .lst hb (dpInts ms), shInts ns, shInts ms, ?_⟩
  rw [PyData.eqv, eqvInts]
  exact k
theorem atI_mod {α : Type} {xs : List α} {i : Int} (h0 : 0 ≤ i) (h1 : i < xs.length) : ∃ v, atI xs i = some v ∧ v ∈ xs := by
  obtain ⟨j, rfl⟩ := Int.eq_ofNat_of_zero_le h0
  have hj : j < xs.length := by omega
  exact ⟨xs[j], atI_nat (by simp [hj]), List.getElem_mem hj⟩

theorem mixOk {x b c1 c2 c3 : Int} (h0 : 0 ≤ x) (h1 : x < 4294967296) (b0 : 0 ≤ b) (b1 : b ≤ 1000000) (d1 : 0 ≤ c1) (e1 : c1 ≤ 1000000) (d2 : 0 ≤ c2) (e2 : c2 ≤ 1000000) (d3 : 0 ≤ c3) (e3 : c3 ≤ 1000000) :
    (x * (2 * b + c1) + c2 * b * b + c3).natAbs < 2 ^ 64 := by
  have u : x * (2 * b + c1) ≤ 4294967296 * 3000000 := Int.mul_le_mul (by omega) (by omega) (by omega) (by omega)
  have u0 : 0 ≤ x * (2 * b + c1) := Int.mul_nonneg h0 (by omega)
  have v : c2 * b ≤ 1000000 * 1000000 := Int.mul_le_mul e2 b1 b0 (by omega)
  have v0 : 0 ≤ c2 * b := Int.mul_nonneg d2 b0
  have w : c2 * b * b ≤ 1000000 * 1000000 * 1000000 := Int.mul_le_mul v b1 b0 (by omega)
  have w0 : 0 ≤ c2 * b * b := Int.mul_nonneg v0 b0
  omega

theorem cut_upto (xs : List V) (k : Nat) : cutV xs none (some (k : Int)) = xs.take k := by
  unfold cutV
  rw [HT.sIx_nat, HT.sIx_none, List.drop_zero, Nat.sub_zero]
  by_cases h : k ≤ xs.length
  · rw [Nat.min_eq_left h]
  · rw [Nat.min_eq_right (by omega), List.take_length, List.take_of_length_le (by omega)]
theorem cut_from (xs : List V) (k : Nat) : cutV xs (some (k : Int)) none = xs.drop k := by
  unfold cutV
  rw [HT.sIx_nat, HT.sIx_none]
  by_cases h : k ≤ xs.length
  · rw [Nat.min_eq_left h, List.take_of_length_le (by rw [List.length_drop]; omega)]
  · rw [Nat.min_eq_right (by omega), List.drop_length, List.take_nil, List.drop_of_length_le (by omega)]

/-! ### rules whose reading names the written part: told of a part that is the same -/
theorem opk {X : Cx} {f : Value → Value → Sem Value} {r : PySem.W.Frag → R2} {K' : PySem.W.Frag} (h : X.K = K') (o : OpR X f (r X.K)) : OpR X f (r K') := by
  subst h
  exact o
theorem ixk {X : Cx} {r : PySem.W.Frag → R2} {K' : PySem.W.Frag} (h : X.K = K') (o : IxR X (r X.K)) : IxR X (r K') := by
  subst h
  exact o
theorem cak {X : Cx} {f : Value} {r : PySem.W.Frag → List V → Hp → VK → Prop} {K' : PySem.W.Frag} (h : X.K = K') (o : CallR X f (r X.K)) : CallR X f (r K') := by
  subst h
  exact o
theorem pe_fldk {X : Cx} {e : Expr} {f : Str} {pos : Pos} {ta : TE} {K' : PySem.W.Frag} (h : X.K = K') (he : PE X e ta) (hb : attributeBase e f X.env (eval e X.env) = eval e X.env) : PE X (.Attribute e f pos) (tFld K' ta f) := by
  subst h
  exact pe_fld he hb

theorem tyIns {K : PySem.W.Frag} {H : Hp} {a C dx : Addr} {fs : List (Str × V)} (c : InsC K C) (h : H a = some (.ins C dx fs)) : TyX K H (.ref a) (.ref C) := .base (.ins h c.cl c.ha c.hn c.ht c.hm)
theorem go_own {K : PySem.W.Frag} {H : Hp} {Q : VK} {a C dx : Addr} {fs : List (Str × V)} {sp : Sp} {E : XK} {y : V} {t : Value} (h : H a = some (.ins C dx fs)) (ty : TyX K H y t) (n : PySem.W.notFirst K C t = true) (k : sp [.ref a, y] H Q E) :
    rOwnC K C sp E (.ref a) y H Q := ⟨a, dx, fs, t, rfl, h, ty, n, k⟩
theorem go_nec {K : PySem.W.Frag} {H : Hp} {Q : VK} {a C dx : Addr} {fs : List (Str × V)} {sp : Sp} {E : XK} {y : V} {t : Value} (h : H a = some (.ins C dx fs)) (ty : TyX K H y t) (n : PySem.W.notFirst K C t = true)
    (k : sp [.ref a, y] H (fun v H' => ∃ r, v = .bl r ∧ Q (.bl (!r)) H') E) : rNeC K C sp E (.ref a) y H Q := ⟨a, dx, fs, t, rfl, h, ty, n, k⟩

theorem op_ownk {X : Cx} {CX : CXT} {j k : Nat} {C : Addr} {sp : Sp} {E : XK} {op : CmpOp} {K' : PySem.W.Frag} (h : X.K = K') (c : Op X.prog X.w X.K X.mg X.base CX k C (cmpInfo op).2.1 sp) (hop : ∀ a b, compareOp op a b = richCompare op a b) (hr : Room j X.A) (hk : k ≤ j)
    (hx : Passes CX X E) : OpR X (compareOp op) (rOwnC K' C sp E) := by
  subst h
  exact op_own c hop hr hk hx
theorem op_neqk {X : Cx} {CX : CXT} {j k : Nat} {C : Addr} {sp : Sp} {E : XK} {K' : PySem.W.Frag} (h : X.K = K') (c : Op X.prog X.w X.K X.mg X.base CX k C "__eq__" sp) (hne : PySem.W.findIn X.K (.ref C) "__ne__" = some (some (.builtin "object.__ne__"))) (hm : PySem.W.mroIn X.K C (.type "object") = some true)
    (hr : Room j X.A) (hk : k + 1 ≤ j) (hx : Passes CX X E) : OpR X (compareOp .NotEq) (rNeC K' C sp E) := by
  subst h
  exact op_neq c hne hm hr hk hx

/-! ### great numbers -/
theorem log_lt {i : Int} {k : Nat} (h : i.natAbs < 2 ^ k) (hk : 0 < k) : i.natAbs.log2 < k := by
  by_cases z : i.natAbs = 0
  · rw [z]
    exact hk
  · exact (Nat.log2_lt z).mpr h
theorem divW {i j : Int} (h0 : 0 < j) (h1 : j < 1000000000000000000000000000000000000000000000000000000000000) : CDivW i j := by
  refine ⟨h0, Nat.lt_of_lt_of_le (log_lt (k := 200) ?_ (by decide)) (by decide)⟩
  have : (2 : Nat) ^ 200 = 1606938044258990275541962092341162602522202993782792835301376 := by decide
  omega
theorem mulI {i j : Int} (h1 : -1000000000000000000000000000000000000000000000000000000000000 < i) (h2 : i < 1000000000000000000000000000000000000000000000000000000000000)
    (h3 : -1000000000000000000000000000000000000000000000000000000000000 < j) (h4 : j < 1000000000000000000000000000000000000000000000000000000000000) : CMulW i j := by
  have e : (2 : Nat) ^ 200 = 1606938044258990275541962092341162602522202993782792835301376 := by decide
  have a := log_lt (i := i) (k := 200) (by omega) (by decide)
  have b := log_lt (i := j) (k := 200) (by omega) (by decide)
  show i.natAbs.log2 + j.natAbs.log2 < 1000000
  omega

/-! ### the laws' pen: cells, how many are begun, what is left of a great one -/
def Pen (K : PySem.W.Frag) (H : Hp) (p : Addr) (n : Nat) : Prop := ∃ (c : Addr) (ns : List Int) (b g : Int), H p = some (.lst [.ref c, .int b, .int g]) ∧ SqL K H c (ns.map V.int) ∧
  ns.length ≤ 63 ∧ 0 ≤ b ∧ b ≤ n ∧ c ≠ p
theorem Pen.mono {K : PySem.W.Frag} {H : Hp} {p : Addr} {n m : Nat} (h : Pen K H p n) (l : n ≤ m) : Pen K H p m := by
  obtain ⟨c, ns, b, g, h1, h2, h3, h4, h5, h6⟩ := h
  exact ⟨c, ns, b, g, h1, h2, h3, h4, by omega, h6⟩
theorem Pen.same {K : PySem.W.Frag} {H H' : Hp} {p : Addr} {n : Nat} (h : Pen K H p n) (s : Same H H') : Pen K H' p n := by
  obtain ⟨c, ns, b, g, h1, h2, h3, h4, h5, h6⟩ := h
  exact ⟨c, ns, b, g, s _ _ h1, s.seq h2, h3, h4, h5, h6⟩
theorem Pen.new {K : PySem.W.Frag} {H : Hp} {p q : Addr} {o : HO} {n : Nat} (h : Pen K H p n) (e : H q = none) : Pen K (upd H q o) p n := h.same (Same.new e)
def spPen (K : PySem.W.Frag) : Sp := fun vs H Q _ => ∃ (a : Addr) (ns : List Int), vs = [.ref a] ∧ SqL K H a (ns.map V.int) ∧ ∀ p H', Pen K H' p 0 → Same H H' → H p = none → Q (.ref p) H'
def spDraw (K : PySem.W.Frag) : Sp := fun vs H Q _ => ∃ (p : Addr) (m : Int) (n : Nat), vs = [.ref p, .int m] ∧ 0 < m ∧ m < 10000000000000000000000000000000000000000 ∧ Pen K H p n ∧ n < 1000000 ∧
  ∀ k H', 0 ≤ k → k < m → Pen K H' p (n + 1) → Kp p H H' → Q (.int k) H'
def spPick (K : PySem.W.Frag) : Sp := fun vs H Q _ => ∃ (p a : Addr) (xs : List V) (n : Nat), vs = [.ref p, .ref a] ∧ (SqL K H a xs ∨ SqT K H a xs) ∧ xs ≠ [] ∧ xs.length ≤ 1000 ∧ a ≠ p ∧ Pen K H p n ∧ n < 1000000 ∧
  ∀ v H', v ∈ xs → Pen K H' p (n + 1) → Kp p H H' → Q v H'
end CT
namespace CT
open PySem PySem.Spec PyProof.Rows L2
open He (ga ma fAd)

/-! ### comprehensions -/
/-- what a comprehension asks once its source is known -/
def rLc (J : It) (g : TG) (tt : TT) (te : TE) (vs : List Nat) (σ : St) (H1 : Hp) (Q : VK) : Prop := ∀ D, H1 D = none → ∃ W : Nat → Nat → Hp → Prop, (∃ m, W 0 m (upd H1 D (.lst []))) ∧ ∀ i m H, W i m H →
  (J.stop i H ∧ Q (.ref D) H) ∨ (J.go i H ∧ ∃ Nx : Hp → Prop, (∀ H', Nx H' → ∃ m', m' < m ∧ W (i + 1) m' H') ∧ ∀ x H', J.yld i H x H' → g x (wipe σ vs) H' fun σ2 H2 => wipe σ2 vs = wipe σ vs ∧ tt σ2 H2 fun b H3 =>
    if b = true then te σ2 H3 fun y H4 => ∃ acc, H4 D = some (.lst acc) ∧ acc.length < sizeLine ∧ Nx (upd H4 D (.lst (acc ++ [y]))) else Nx H3)
section
variable {σ : St} {H : Hp} {Q : VK} {K : PySem.W.Frag}
theorem go_yes {R : Bool → Hp → Prop} (k : R true H) : tYes σ H R := k
theorem go_lc {wi : TI} {g : TG} {tt : TT} {te : TE} {vs : List Nat} (k : wi σ H fun J H1 => rLc J g tt te vs σ H1 Q) : tLc wi g tt te vs σ H Q := k
def rRng1 (vs : List V) (H : Hp) (R : It → Hp → Prop) : Prop := ∃ j : Int, vs = [.int j] ∧ -(2 ^ 62) ≤ j ∧ j < 2 ^ 62 ∧ R (Itr 0 j.toNat) H
theorem go_rng1 {ta : TA} {R : It → Hp → Prop} (k : ta σ H fun vs H1 => rRng1 vs H1 R) : iRng1 ta σ H R := k
theorem go_rng1x {j : Int} {R : It → Hp → Prop} (h : -4611686018427387904 ≤ j ∧ j < 4611686018427387904) (k : R (Itr 0 j.toNat) H) : rRng1 [.int j] H R := ⟨j, rfl, h.1, h.2, k⟩
def rRng2 (vs : List V) (H : Hp) (R : It → Hp → Prop) : Prop := ∃ i j : Int, vs = [.int i, .int j] ∧ (-(2 ^ 62) ≤ i ∧ i < 2 ^ 62 ∧ -(2 ^ 62) ≤ j ∧ j < 2 ^ 62) ∧ R (Itr i (j - i).toNat) H
theorem go_rng2 {ta : TA} {R : It → Hp → Prop} (k : ta σ H fun vs H1 => rRng2 vs H1 R) : iRng2 ta σ H R := k
theorem go_rng2x {i j : Int} {R : It → Hp → Prop} (h : (-4611686018427387904 ≤ i ∧ i < 4611686018427387904) ∧ -4611686018427387904 ≤ j ∧ j < 4611686018427387904) (k : R (Itr i (j - i).toNat) H) : rRng2 [.int i, .int j] H R :=
  ⟨i, j, rfl, ⟨h.1.1, h.1.2, h.2.1, h.2.2⟩, k⟩
def rListI (K : PySem.W.Frag) (x : V) (H : Hp) (R : It → Hp → Prop) : Prop := ∃ a, x = .ref a ∧ (∃ xs, SqL K H a xs) ∧ R (Itl K a) H
theorem go_listI {tl : TE} {R : It → Hp → Prop} (k : tl σ H fun x H1 => rListI K x H1 R) : iList K tl σ H R := k
theorem go_listIx {a : Addr} {xs : List V} {R : It → Hp → Prop} (h : SqL K H a xs) (k : R (Itl K a) H) : rListI K (.ref a) H R := ⟨a, rfl, ⟨xs, h⟩, k⟩
def rTupI (K : PySem.W.Frag) (x : V) (H : Hp) (R : It → Hp → Prop) : Prop := ∃ a, x = .ref a ∧ (∃ xs, SqT K H a xs) ∧ R (Itt K a) H
theorem go_tupI {tl : TE} {R : It → Hp → Prop} (k : tl σ H fun x H1 => rTupI K x H1 R) : iTup K tl σ H R := k
theorem go_tupIx {a : Addr} {xs : List V} {R : It → Hp → Prop} (h : SqT K H a xs) (k : R (Itt K a) H) : rTupI K (.ref a) H R := ⟨a, rfl, ⟨xs, h⟩, k⟩

/-! #### without effect on what was tracked -/
theorem lcRange {j n : Nat} {vs : List Nat} {te : TE} (f : Nat → V) (hn : n ≤ 100000) (hw : ∀ v, wipe ((wipe σ vs).set j (some v)) vs = wipe σ vs)
    (hs : ∀ (i : Nat) (H' : Hp) (Q' : VK), i < n → Same H H' → (∀ H'', Same H' H'' → Q' (f i) H'') → te ((wipe σ vs).set j (some (.int i))) H' Q')
    (k : ∀ D H', H D = none → Same H H' → H' D = some (.lst ((List.range n).map f)) → Q (.ref D) H') : rLc (Itr 0 n) (gName j) tYes te vs σ H Q := by
  intro D nD
  refine lc_range (lo := 0) (n := n) (fun i H' => Same H H' ∧ H' D = some (.lst ((List.range i).map f))) ⟨Same.new nD, upd_same⟩ ?_ fun H' ⟨s, d⟩ => k D H' nD s d
  rintro i H' hi ⟨s, d⟩
  refine ⟨hw _, ?_⟩
  refine go_yes ?_
  refine iteT ?_
  rw [Int.zero_add]
  refine hs i H' _ hi s fun H'' s2 => ?_
  refine ⟨_, s2 _ _ d, ?_, ?_, ?_⟩
  · rw [List.length_map, List.length_range]
    exact Nat.lt_of_lt_of_le (Nat.lt_of_lt_of_le hi hn) (by decide)
  · exact fun b o h => (upd_ne (ne_of_none h nD)).trans (s2 _ _ (s _ _ h))
  · rw [List.range_succ, List.map_append]
    exact upd_same
theorem lcList {j : Nat} {a : Addr} {xs : List V} {vs : List Nat} {te : TE} (f : V → V) (hn : xs.length ≤ 100000) (ha : SqL K H a xs) (hw : ∀ v, wipe ((wipe σ vs).set j (some v)) vs = wipe σ vs)
    (hs : ∀ (x : V) (H' : Hp) (Q' : VK), x ∈ xs → Same H H' → (∀ H'', Same H' H'' → Q' (f x) H'') → te ((wipe σ vs).set j (some x)) H' Q')
    (k : ∀ D H', H D = none → Same H H' → H' D = some (.lst (xs.map f)) → Q (.ref D) H') : rLc (Itl K a) (gName j) tYes te vs σ H Q := by
  intro D nD
  refine lc_list (K := K) (a := a) (xs := xs) (fun i H' => Same H H' ∧ H' D = some (.lst ((xs.take i).map f))) ⟨Same.new nD, upd_same⟩ (fun i H' _ p => p.1.seq ha) ?_ fun H' ⟨s, d⟩ => k D H' nD s (by rw [List.take_length] at d; exact d)
  rintro i x H' hi ⟨s, d⟩
  refine ⟨hw _, ?_⟩
  refine go_yes ?_
  refine iteT ?_
  obtain ⟨hlt, ex⟩ := List.getElem?_eq_some_iff.mp hi
  refine hs x H' _ (List.mem_of_getElem? hi) s fun H'' s2 => ?_
  refine ⟨_, s2 _ _ d, ?_, ?_, ?_⟩
  · rw [List.length_map, List.length_take]
    exact Nat.lt_of_lt_of_le (Nat.lt_of_lt_of_le (show min i xs.length < xs.length by omega) hn) (by decide)
  · exact fun b o h => (upd_ne (ne_of_none h nD)).trans (s2 _ _ (s _ _ h))
  · rw [List.take_add_one, hi, List.map_append]
    exact upd_same
/-- some are kept -/
theorem lcTupIf {j : Nat} {a : Addr} {xs : List V} {vs : List Nat} {tt : TT} {te : TE} (c : V → Bool) (f : V → V) (hn : xs.length ≤ 100000) (ha : SqT K H a xs) (hw : ∀ v, wipe ((wipe σ vs).set j (some v)) vs = wipe σ vs)
    (ht : ∀ (x : V) (H' : Hp) (Q' : Bool → Hp → Prop), x ∈ xs → Same H H' → (∀ H'', Same H' H'' → Q' (c x) H'') → tt ((wipe σ vs).set j (some x)) H' Q')
    (hs : ∀ (x : V) (H' : Hp) (Q' : VK), x ∈ xs → c x = true → Same H H' → (∀ H'', Same H' H'' → Q' (f x) H'') → te ((wipe σ vs).set j (some x)) H' Q')
    (k : ∀ D H', H D = none → Same H H' → H' D = some (.lst ((xs.filter c).map f)) → Q (.ref D) H') : rLc (Itt K a) (gName j) tt te vs σ H Q := by
  intro D nD
  refine lc_tup (K := K) (a := a) (xs := xs) (fun i H' => Same H H' ∧ H' D = some (.lst (((xs.take i).filter c).map f))) ⟨Same.new nD, upd_same⟩ (fun i H' _ p => ?_) ?_ fun H' ⟨s, d⟩ => k D H' nD s (by rw [List.take_length] at d; exact d)
  · obtain ⟨s, _⟩ := p
    rcases ha with (h | ⟨o, h⟩) | h
    · exact .inl (.inl (s _ _ h))
    · exact .inl (.inr ⟨o, s _ _ h⟩)
    · exact .inr h
  rintro i x H' hi ⟨s, d⟩
  refine ⟨hw _, ?_⟩
  have hx := List.mem_of_getElem? hi
  obtain ⟨hlt, ex⟩ := List.getElem?_eq_some_iff.mp hi
  have step : (xs.take (i + 1)).filter c = (xs.take i).filter c ++ (if c x = true then [x] else []) := by
    rw [List.take_add_one, hi, List.filter_append]
    cases e : c x <;> simp [e]
  refine ht x H' _ hx s fun H1 s1 => ?_
  refine go_b (fun e => ?_) fun e => ?_
  · refine hs x H1 _ hx e (s.trans s1) fun H'' s2 => ?_
    refine ⟨_, s2 _ _ (s1 _ _ d), ?_, ?_, ?_⟩
    · rw [List.length_map]
      have q := List.length_filter_le c (xs.take i)
      rw [List.length_take] at q
      exact Nat.lt_of_lt_of_le (Nat.lt_of_lt_of_le (show ((xs.take i).filter c).length < xs.length by omega) hn) (by decide)
    · exact fun b o h => (upd_ne (ne_of_none h nD)).trans (s2 _ _ (s1 _ _ (s _ _ h)))
    · rw [step, if_pos e, List.map_append]
      exact upd_same
  · refine ⟨s.trans s1, ?_⟩
    rw [step, if_neg (by rw [e]; exact Bool.false_ne_true), List.append_nil]
    exact s1 _ _ d
end

section
variable {σ : St} {H : Hp} {K : PySem.W.Frag}
theorem go_gtup {n : Nat} {t : TGs} {a : Addr} {xs : List V} {R : St → Hp → Prop} (h : SqT K H a xs) (e : xs.length = n) (k : t xs σ H R) : gTup K n t (.ref a) σ H R := ⟨a, xs, rfl, h, e, k⟩
theorem go_gcons {t : TG} {u : TGs} {v : V} {r : List V} {R : St → Hp → Prop} (k : t v σ H fun σ' H' => u r σ' H' R) : gCons t u (v :: r) σ H R := ⟨v, r, rfl, k⟩
theorem go_gnil {R : St → Hp → Prop} (k : R σ H) : gNil [] σ H R := ⟨rfl, k⟩
end
section
variable {σ : St} {H : Hp} {K : PySem.W.Frag} {Q : VK}
/-- a new instance -/
def rMake (C : Addr) (sp : Sp) (E : XK) (vs : List V) (H1 : Hp) (Q : VK) : Prop := ∀ x dx, H1 x = none → H1 dx = none → dx ≠ x → sp (.ref x :: (vs ++ [])) (upd (upd H1 dx (.own x)) x (.ins C dx [])) (fun v H2 => v = .non ∧ Q (.ref x) H2) E
theorem go_make {C : Addr} {sp : Sp} {E : XK} {t : TA} (k : t σ H fun vs H1 => rMake C sp E vs H1 Q) : tMake C sp [] E t σ H Q := k
/-- o.m(..) -/
def rMeth (C : Addr) (m : Str) (sp : Sp) (E : XK) (t : TA) (σ : St) (x : V) (H1 : Hp) (Q : VK) : Prop := ∃ a dx fs, x = .ref a ∧ H1 a = some (.ins C dx fs) ∧ fs.lookup m = none ∧ t σ H1 fun vs H2 => sp (x :: (vs ++ [])) H2 Q E
theorem go_meth {C : Addr} {m : Str} {sp : Sp} {E : XK} {ta : TE} {t : TA} (k : ta σ H fun x H1 => rMeth C m sp E t σ x H1 Q) : tMeth C m sp [] E ta t σ H Q := k
theorem go_methx {C a dx : Addr} {fs : List (Str × V)} {m : Str} {sp : Sp} {E : XK} {t : TA} (h : H a = some (.ins C dx fs)) (l : fs.lookup m = none) (k : t σ H fun vs H2 => sp (.ref a :: (vs ++ [])) H2 Q E) : rMeth C m sp E t σ (.ref a) H Q := ⟨a, dx, fs, rfl, h, l, k⟩
end
/-! ### loops -/
def rFor (J : It) (g : TG) (tb : TS) (D : Ends) (σ : St) (H : Hp) : Prop := ∃ W : Nat → Nat → St → Hp → Prop, (∃ m, W 0 m σ H) ∧ ∀ i m σ H, W i m σ H →
  (J.stop i H ∧ D.nx σ H) ∨ (J.go i H ∧ ∃ N : St → Hp → Prop, (∀ σ' H', N σ' H' → ∃ m', m' < m ∧ W (i + 1) m' σ' H') ∧ ∀ x H', J.yld i H x H' → g x σ H' fun σ2 H2 => tb { D with nx := N, ct := N, bk := D.nx } σ2 H2)
section
variable {σ : St} {H : Hp} {D : Ends} {K : PySem.W.Frag} {g : TG} {tb : TS}
theorem go_for {wi : TI} (k : wi σ H fun J H1 => rFor J g tb D σ H1) : tFor wi g tb D σ H := k
theorem forRange {lo : Int} {n : Nat} (Pv : Nat → St → Hp → Prop) (h0 : Pv 0 σ H)
    (hs : ∀ i σ H, i < n → Pv i σ H → g (.int (lo + i)) σ H fun σ2 H2 => tb { D with nx := Pv (i + 1), ct := Pv (i + 1), bk := D.nx } σ2 H2) (hd : ∀ σ H, Pv n σ H → D.nx σ H) : rFor (Itr lo n) g tb D σ H := for_range Pv h0 hs hd
theorem forList {a : Addr} {xs : List V} (Pv : Nat → St → Hp → Prop) (h0 : Pv 0 σ H) (hl : ∀ i σ H, i ≤ xs.length → Pv i σ H → SqL K H a xs)
    (hs : ∀ i x σ H, xs[i]? = some x → Pv i σ H → g x σ H fun σ2 H2 => tb { D with nx := Pv (i + 1), ct := Pv (i + 1), bk := D.nx } σ2 H2) (hd : ∀ σ H, Pv xs.length σ H → D.nx σ H) : rFor (Itl K a) g tb D σ H := for_list Pv h0 hl hs hd
theorem forTup {a : Addr} {xs : List V} (Pv : Nat → St → Hp → Prop) (h0 : Pv 0 σ H) (hl : ∀ i σ H, i ≤ xs.length → Pv i σ H → SqT K H a xs)
    (hs : ∀ i x σ H, xs[i]? = some x → Pv i σ H → g x σ H fun σ2 H2 => tb { D with nx := Pv (i + 1), ct := Pv (i + 1), bk := D.nx } σ2 H2) (hd : ∀ σ H, Pv xs.length σ H → D.nx σ H) : rFor (Itt K a) g tb D σ H := for_tup Pv h0 hl hs hd
theorem go_all {a : Addr} {bs : List Bool} {Q : VK} (h : SqL K H a (bs.map V.bl)) (k : Q (.bl (bs.all id)) H) : rAll K [.ref a] H Q := ⟨a, bs, rfl, h, k⟩
end

/-! ### the pen, used -/
section
variable {K : PySem.W.Frag} {H H' : Hp} {p a : Addr} {n : Nat} {Q : VK} {E : XK}
theorem Pen.lst (h : Pen K H p n) : ∃ xs, H p = some (.lst xs) := by
  obtain ⟨_, _, _, _, hp, _⟩ := h
  exact ⟨_, hp⟩
theorem Kp.free (k : Kp p H H') (h : Pen K H' p n) (e : H' a = none) : H a = none := by
  obtain ⟨xs, hp⟩ := h.lst
  cases q : H a with
  | none => rfl
  | some o =>
    by_cases z : a = p
    · rw [z, hp] at e
      cases e
    · rw [k a o q z] at e
      cases e
theorem Pen.ne_new (h : Pen K H p n) (e : H a = none) : a ≠ p := fun z => by
  obtain ⟨xs, hp⟩ := h.lst
  rw [z, hp] at e
  cases e
theorem Pen.ne_lst {xs : List V} (h : Pen K H p n) (e : H a = some (.lst xs)) (d : ∀ c b g, xs ≠ [.ref c, .int b, .int g]) : a ≠ p := fun z => by
  obtain ⟨c, _, b, g, hp, _⟩ := h
  rw [z, hp] at e
  cases e
  exact d c b g rfl
theorem Pen.ne_ins {C dx : Addr} {fs : List (Str × V)} (h : Pen K H p n) (e : H a = some (.ins C dx fs)) : a ≠ p := fun z => by
  obtain ⟨xs, hp⟩ := h.lst
  rw [z, hp] at e
  cases e
theorem draw_go {m : Int} (hP : Pen K H p n) (hn : n < 1000000) (h0 : 0 < m) (h1 : m < 10000000000000000000000000000000000000000) (k : ∀ i H', 0 ≤ i → i < m → Pen K H' p (n + 1) → Kp p H H' → Q (.int i) H') : spDraw K [.ref p, .int m] H Q E :=
  ⟨p, m, n, rfl, h0, h1, hP, hn, k⟩
theorem pick_new {xs : List V} (hP : Pen K H p n) (hn : n < 1000000) (nq : H a = none) (hx : xs ≠ []) (hl : xs.length ≤ 1000) (k : ∀ v H', v ∈ xs → Pen K H' p (n + 1) → Kp p H H' → H' a = some (.lst xs) → Q v H') :
    spPick K [.ref p, .ref a] (upd H a (.lst xs)) Q E := by
  have ap := hP.ne_new nq
  refine ⟨p, a, xs, n, rfl, .inl (SqL.of upd_same), hx, hl, ap, hP.new nq, hn, fun v H' hv P' k' => k v H' hv P' ((Kp.new nq).trans k') (k' _ _ upd_same ap)⟩
theorem pick_at {xs : List V} (hP : Pen K H p n) (hn : n < 1000000) (ha : H a = some (.lst xs)) (ap : a ≠ p) (hx : xs ≠ []) (hl : xs.length ≤ 1000) (k : ∀ v H', v ∈ xs → Pen K H' p (n + 1) → Kp p H H' → Q v H') :
    spPick K [.ref p, .ref a] H Q E := ⟨p, a, xs, n, rfl, .inl (SqL.of ha), hx, hl, ap, hP, hn, k⟩
end

/-! ### reprs of lists of truth values -/
def okBools (bs : List Bool) : Bool := (PyData.list (bs.map PyData.bool)).showable && (!(PyData.list (bs.map PyData.bool)).hasDict && (decide ((PyData.list (bs.map PyData.bool)).depth ≤ 60) && decide ((PyData.list (bs.map PyData.bool)).shown.length ≤ sizeLine)))
theorem dpBools {K : PySem.W.Frag} {H : Hp} : ∀ bs : List Bool, DpAll K H (bs.map V.bl) (bs.map PyData.bool)
  | [] => .nil
  | b :: bs => .cons (.bl b) (dpBools bs)
theorem repr_bools {K : PySem.W.Frag} {H : Hp} {Q : VK} {a : Addr} {bs : List Bool} (h : SqL K H a (bs.map V.bl)) (c : okBools bs = true) (k : Q (.str (PyData.list (bs.map PyData.bool)).shown) H) : rRepr K [.ref a] H Q := by
  unfold okBools at c
  simp only [Bool.and_eq_true, Bool.not_eq_true', decide_eq_true_eq] at c
  exact ⟨_, _, rfl, .lst h (dpBools bs), c.1, c.2.1, c.2.2.1, c.2.2.2, k⟩

/-! ### greatest common divisors -/
def gc (t b : Int) : Int := (Nat.gcd t.natAbs b.natAbs : Nat)
theorem gc_pos {t b : Int} (h : 0 < b) : 0 < gc t b := by
  have := Nat.gcd_pos_of_pos_right t.natAbs (show 0 < b.natAbs by omega)
  unfold gc
  omega
theorem gc_le {t b : Int} (h : 0 < b) : gc t b ≤ b := by
  have := Nat.gcd_le_right t.natAbs (show 0 < b.natAbs by omega)
  unfold gc
  omega
theorem gc_top {t b : Int} : gc t b * (t / gc t b) = t := Int.mul_ediv_cancel' (Int.ofNat_dvd_left.mpr (Nat.gcd_dvd_left _ _))
theorem gc_bot {t b : Int} : gc t b * (b / gc t b) = b := Int.mul_ediv_cancel' (Int.ofNat_dvd_left.mpr (Nat.gcd_dvd_right _ _))
theorem go_gcd {H : Hp} {Q : VK} {t b : Int} (k : Q (.int (gc t b)) H) : rGcd [.int t, .int b] H Q := ⟨t, b, rfl, k⟩
end CT
namespace CT
open PySem PySem.Spec PyProof.Rows L2
open He (ga ma fAd)

/-! ### exceptions with fields of their own -/
def spEx1 (C : Addr) (f : Str) : Sp := fun vs H Q _ => ∃ (a : Addr) (v : V), vs = [.ref a, v] ∧ H a = some (exo a C none) ∧
  ∀ dx, H dx = none → dx ≠ a → Q .non (upd (upd H dx (exd dx [(f, v)])) a (exo a C (some dx)))
def spEx2 (C : Addr) (f g : Str) : Sp := fun vs H Q _ => ∃ (a : Addr) (v w : V), vs = [.ref a, v, w] ∧ H a = some (exo a C none) ∧
  ∀ dx, H dx = none → dx ≠ a → Q .non (upd (upd H dx (exd dx [(g, w), (f, v)])) a (exo a C (some dx)))
/-- C(..) that is raised -/
def Ex (P : Program) (w : World) (K : PySem.W.Frag) (mg : Str → Option Value) (base : Heap) (k : Nat) (x : Str) (sp : Sp) : Prop :=
  ∃ fd ps, FnOk P w K mg base CX0 k (ma K (ga K x) "__init__") fd ps sp ∧ ExoC K (ga K x) (ma K (ga K x) "__init__") ∧ mg x = some (.ref (ga K x)) ∧ Binds K fd ps []
section
variable {X : Cx} {j k : Nat} {x : Str} {sp : Sp} {p pos : Pos} {e : Expr} {es : List Expr} {ta : TA}
theorem pmk_ex (c : Ex X.prog X.w X.K X.mg X.base k x sp) (hr : Room j X.A) (hk : k + 1 ≤ j) (ha : PA X (e :: es) ta) (hg : Gl X x := by rfl)
    (hdb : (x == ("__debug__" : Str)) = false := by decide) (he : starEach (e :: es) X.env = (false, eval e X.env) :: starEach es X.env := by rfl) (hpl : (backTo pos (starEach es X.env)).any (·.1) = false := by rfl) :
    PMk X (.Call (.Name x p) (e :: es) [] pos) (tMkO (ga X.K x) sp [] ta) := by
  obtain ⟨fd, ps, F, T, hm, b⟩ := c
  exact pmk_oex T.oex T.init T.fn F (hr.mono hk) b .nil (fun _ _ _ _ _ _ _ h => h.elim) hg hm ha hdb he hpl
end
section
variable {σ : St} {H : Hp} {K : PySem.W.Frag}
def rMkO (C : Addr) (sp : Sp) (vs : List V) (H1 : Hp) (Q : XK) : Prop := vs.length ≤ 1000 ∧ ∀ a, H1 a = none → sp (.ref a :: (vs ++ [])) (upd H1 a (exo a C none))
  (fun v H2 => v = .non ∧ ∃ (d : Addr) (fs : List (Str × V)), H2 a = some (exo a C (some d)) ∧ H2 d = some (exd d fs) ∧ H1 d = none ∧ Q (.ref C) (some d) (upd (del H2 a) d (.xd fs))) (fun _ _ _ => False)
theorem go_mko {C : Addr} {sp : Sp} {ta : TA} {Q : XK} (k : ta σ H fun vs H1 => rMkO C sp vs H1 Q) : tMkO C sp [] ta σ H Q := k
theorem made_heap {a d : Addr} {u1 u2 u3 : HO} (na : H a = none) : upd (del (upd (upd (upd H a u1) d u2) a u3) a) d (.xd fs) = upd H d (.xd fs) := by
  funext b
  unfold upd del
  by_cases hb : b = d
  · rw [if_pos hb, if_pos hb]
  · rw [if_neg hb, if_neg hb]
    by_cases ha : b = a
    · rw [if_pos ha, ha, na]
    · rw [if_neg ha]
      simp only [if_neg ha, if_neg hb]
theorem go_ex1 {C : Addr} {f : Str} {v : V} {Q : XK} (k : ∀ d, H d = none → Q (.ref C) (some d) (upd H d (.xd [(f, v)]))) : rMkO C (spEx1 C f) [v] H Q := by
  refine ⟨Nat.le_of_ble_eq_true rfl, fun a na => ⟨a, v, rfl, upd_same, fun dx nd ne => ⟨rfl, dx, _, upd_same, (upd_ne ne).trans upd_same, ?_, ?_⟩⟩⟩
  · rw [upd_ne ne] at nd
    exact nd
  · rw [upd_ne ne] at nd
    rw [made_heap na]
    exact k dx nd
theorem go_ex2 {C : Addr} {f g : Str} {v w : V} {Q : XK} (k : ∀ d, H d = none → Q (.ref C) (some d) (upd H d (.xd [(g, w), (f, v)]))) : rMkO C (spEx2 C f g) [v, w] H Q := by
  refine ⟨Nat.le_of_ble_eq_true rfl, fun a na => ⟨a, v, w, rfl, upd_same, fun dx nd ne => ⟨rfl, dx, _, upd_same, (upd_ne ne).trans upd_same, ?_, ?_⟩⟩⟩
  · rw [upd_ne ne] at nd
    exact nd
  · rw [upd_ne ne] at nd
    rw [made_heap na]
    exact k dx nd
def rOst (K : PySem.W.Frag) (f : Str) (y x : V) (H : Hp) (R : Hp → Prop) : Prop := ∃ a C : Addr, x = .ref a ∧ OexC K C ∧ PySem.W.findIn K (.ref C) f = some none ∧
  ((H a = some (exo a C none) ∧ ∀ dx, H dx = none → dx ≠ a → R (upd (upd H dx (exd dx [(f, y)])) a (exo a C (some dx)))) ∨
    ∃ (dx : Addr) (fs : List (Str × V)), H a = some (exo a C (some dx)) ∧ H dx = some (exd dx fs) ∧ fs.length ≤ 900 ∧ R (upd H dx (exd dx ((f, y) :: fs))))
theorem go_ost {f : Str} {to te : TE} {D : Ends} (k : te σ H fun y H1 => to σ H1 fun x H2 => rOst K f y x H2 (D.nx σ)) : tOst K f to te D σ H := k
theorem go_ost1 {a C : Addr} {f : Str} {y : V} {R : Hp → Prop} (c : OexC K C) (n : NoAttr K C f) (h : H a = some (exo a C none)) (k : ∀ dx, H dx = none → dx ≠ a → R (upd (upd H dx (exd dx [(f, y)])) a (exo a C (some dx)))) :
    rOst K f y (.ref a) H R := ⟨a, C, rfl, c, n, .inl ⟨h, k⟩⟩
theorem go_ost2 {a C dx : Addr} {f g : Str} {v y : V} {R : Hp → Prop} (c : OexC K C) (n : NoAttr K C f) (ne : dx ≠ a) (k : R (upd (upd H dx (exd dx [(f, y), (g, v)])) a (exo a C (some dx)))) :
    rOst K f y (.ref a) (upd (upd H dx (exd dx [(g, v)])) a (exo a C (some dx))) R := by
  refine ⟨a, C, rfl, c, n, .inr ⟨dx, [(g, v)], upd_same, (upd_ne ne).trans upd_same, Nat.le_of_ble_eq_true rfl, ?_⟩⟩
  have e : upd (upd (upd H dx (exd dx [(g, v)])) a (exo a C (some dx))) dx (exd dx [(f, y), (g, v)]) = upd (upd H dx (exd dx [(f, y), (g, v)])) a (exo a C (some dx)) := by
    funext b
    unfold upd
    by_cases hb : b = dx
    · rw [if_pos hb, hb, if_neg ne, if_pos rfl]
    · rw [if_neg hb, if_neg hb, if_neg hb]
  rw [e]
  exact k
end

/-! ### C(..) with defaults -/
def MkeD (P : Program) (w : World) (K : PySem.W.Frag) (mg : Str → Option Value) (base : Heap) (CX : CXT) (k : Nat) (x : Str) (sp : Sp) (dvs : List V) : Prop :=
  ∃ f fd ps ds, FnOk P w K mg base CX k f fd ps sp ∧ Mk K (ga K x) f ∧ mg x = some (.ref (ga K x)) ∧ Binds K fd ps ds ∧ Vals dvs ds
theorem pe_mked {X : Cx} {CX : CXT} {j k : Nat} {x : Str} {sp : Sp} {E : XK} {p pos : Pos} {e : Expr} {es : List Expr} {t : TA} {dvs : List V} (c : MkeD X.prog X.w X.K X.mg X.base CX k x sp dvs) (hr : Room j X.A) (hk : k + 1 ≤ j) (hx : Passes CX X E) (ha : PA X (e :: es) t) (hg : Gl X x := by rfl)
    (hdb : (x == ("__debug__" : Str)) = false := by decide) (he : starEach (e :: es) X.env = (false, eval e X.env) :: starEach es X.env := by rfl)
    (hpl : (backTo pos (starEach es X.env)).any (·.1) = false := by rfl) : PE X (.Call (.Name x p) (e :: es) [] pos) (tMake (ga X.K x) sp dvs E t) := by
  obtain ⟨f, fd, ps, ds, F, M, hm, b, v⟩ := c
  exact pe_make M F (hr.mono hk) hg hm b v hx ha hdb he hpl
def rMakeD (C : Addr) (sp : Sp) (dvs : List V) (E : XK) (vs : List V) (H1 : Hp) (Q : VK) : Prop := ∀ x dx, H1 x = none → H1 dx = none → dx ≠ x → sp (.ref x :: (vs ++ dvs)) (upd (upd H1 dx (.own x)) x (.ins C dx [])) (fun v H2 => v = .non ∧ Q (.ref x) H2) E
theorem go_maked {σ : L2.St} {H : Hp} {Q : VK} {C : Addr} {sp : Sp} {dvs : List V} {E : XK} {t : TA} (k : t σ H fun vs H1 => rMakeD C sp dvs E vs H1 Q) : tMake C sp dvs E t σ H Q := k

/-! ### what a raising def promises -/
/-- an error of the class x with one field -/
def Er1 (K : PySem.W.Frag) (x f : Str) (v : V) (H : Hp) (E : XK) : Prop := ∀ d H', H d = none → Same H H' → H' d = some (.xd [(f, v)]) → E (.ref (ga K x)) (some d) H'
def Er2 (K : PySem.W.Frag) (x f g : Str) (v w : V) (H : Hp) (E : XK) : Prop := ∀ d H', H d = none → Same H H' → H' d = some (.xd [(g, w), (f, v)]) → E (.ref (ga K x)) (some d) H'
theorem Er1.at {K : PySem.W.Frag} {x f : Str} {v : V} {H : Hp} {E : XK} (h : Er1 K x f v H E) : ∀ d, H d = none → E (.ref (ga K x)) (some d) (upd H d (.xd [(f, v)])) := fun d n => h d _ n (Same.new n) upd_same
theorem Er2.at {K : PySem.W.Frag} {x f g : Str} {v w : V} {H : Hp} {E : XK} (h : Er2 K x f g v w H E) : ∀ d, H d = none → E (.ref (ga K x)) (some d) (upd H d (.xd [(g, w), (f, v)])) := fun d n => h d _ n (Same.new n) upd_same
end CT
namespace CT
open PySem PySem.Spec PyProof.Rows L2
open He (ga ma fAd)

/-! ### lambdas that are handed on: what their raising finds -/
/-- a wish may lean on the number of the slots -/
theorem takes_len {X : Cx} {W : WX} (t : Takes X W) : Takes X (fun cls d σ H => σ.length = X.N.length → W cls d σ H) :=
  fun u s' ⟨a, B, sI, pins, σ, H, cls, d, e, I, nb, up, sky, na, os, ag, w⟩ => t u s' ⟨a, B, sI, pins, σ, H, cls, d, e, I, nb, up, sky, na, os, ag, w I.len⟩
theorem slot_set {σ : St} {i n : Nat} {v : Option V} (h : σ.length = n) (hi : i < n) : (σ.set i v)[i]? = some v := by
  rw [List.getElem?_set]
  simp [h, hi]
theorem slot_past {σ : St} {i j : Nat} {v w : Option V} (h : σ[i]? = some v) (hij : j ≠ i) : (σ.set j w)[i]? = some v := by
  rw [List.getElem?_set, if_neg hij]
  exact h
def tAskT (f c' : Addr) (q : Str) (t : Hp → VK → Prop) : TE := fun σZ HZ Q => σZ[0]? = some (some (.ref f)) ∧ HZ c' = some (LamX.CodeO c' q) ∧ t HZ Q
def rXk (K : PySem.W.Frag) (f : Str) (x : V) (H1 : Hp) (Q : VK) : Prop := ∃ (a C dd : Addr) (fs : List (Str × V)) (v : V),
  x = .ref a ∧ H1 a = some (ExK (.ref C) (some dd) a) ∧ XfC K C ∧ PySem.W.findIn K (.ref C) f = some none ∧ H1 dd = some (.xd fs) ∧ fs.lookup f = some v ∧ Q v H1
theorem go_xk {K : PySem.W.Frag} {σ : St} {H : Hp} {Q : VK} {f : Str} {te : TE} (k : te σ H fun x H1 => rXk K f x H1 Q) : tXk K f te σ H Q := k
theorem go_xkx {K : PySem.W.Frag} {H : Hp} {Q : VK} {a C dd : Addr} {fs : List (Str × V)} {f : Str} {v : V} (h : H a = some (ExK (.ref C) (some dd) a)) (c : XfC K C) (n : NoAttr K C f) (hd : H dd = some (.xd fs)) (l : fs.lookup f = some v) (k : Q v H) :
    rXk K f (.ref a) H Q := ⟨a, C, dd, fs, v, rfl, h, c, n, hd, l, k⟩
theorem go_isx {K : PySem.W.Frag} {H : Hp} {Q : VK} {a D dd : Addr} {fs : List (Str × V)} {c : V} {cv : Value} {b : Bool} (h : H a = some (ExK (.ref D) (some dd) a)) (hd : H dd = some (.xd fs)) (C : ExcC K D) (k : ClsV c cv) (e : PySem.W.kitOne K (.ref D) cv = some b)
    (q : Q (.bl b) H) : rIsK K [.ref a, c] H Q := ⟨a, D, some dd, c, cv, b, rfl, h, (fun d z => by cases z; exact ⟨fs, hd⟩), C, k, e, q⟩
/-! ### tables of code objects under the pen -/
theorem codeO_lst {c : Addr} {q : Str} {xs : List V} : LamX.CodeO c q ≠ .lst xs := fun z => by
  unfold LamX.CodeO at z
  cases z
theorem tabs_kp {T : List (Addr × Str)} {p : Addr} {H H' : Hp} (t : LamX.Tabs T H) (k : Kp p H H') (h : ∃ xs, H p = some (.lst xs)) : LamX.Tabs T H' := fun r hr => by
  obtain ⟨xs, hp⟩ := h
  obtain ⟨ps, h1, h2, h3⟩ := t r hr
  refine ⟨ps, k _ _ h1 (fun z => by rw [z, hp] at h1; cases h1), h2, fun pos cv hc => ?_⟩
  obtain ⟨c, e1, e2⟩ := h3 pos cv hc
  refine ⟨c, e1, k _ _ e2 fun z => ?_⟩
  rw [z, hp] at e2
  exact codeO_lst (Option.some.inj e2).symm
theorem tabs_same {T : List (Addr × Str)} {H H' : Hp} (t : LamX.Tabs T H) (k : Same H H') : LamX.Tabs T H' := t.ext k
theorem pen_ext {K : PySem.W.Frag} {p : Addr} {n : Nat} {H H' : Hp} (h : Pen K H p n) (e : LamX.ExtN H H') : Pen K H' p n := by
  obtain ⟨c, ns, b, g, h1, h2, h3, h4, h5, h6⟩ := h
  refine ⟨c, ns, b, g, e _ _ h1 (fun _ z => by cases z), ?_, h3, h4, h5, h6⟩
  rcases h2 with (h | ⟨o, h⟩) | h
  · exact .inl (.inl (e _ _ h fun _ z => by cases z))
  · exact .inl (.inr ⟨o, e _ _ h fun _ z => by cases z⟩)
  · exact .inr h

/-! ### a def whose code object is named; the call with a lambda -/
section
variable {P : Program} {w : World} {K : PySem.W.Frag} {mg : Str → Option Value} {base : Heap} {x qual : Str} {params : Arguments} {body : List Stmt} {scope : Scope} {dvs : List V} {kws : List (Str × V)} {f : Addr} {fd : FuncData}
theorem _root_.L2.FunD.okGD {CX : CXT} {N ps : List Str} {k : Nat} {sp : Sp} (F : L2.FunD K x qual params body scope dvs kws f fd) (S : FnScope N ps scope) (len : ∀ vs H Q E, sp vs H Q E → vs.length = ps.length)
    (hbody : ∀ (A : Around) (outer : List Env) (s : Shared) (H : Hp) (vs : List V) (Q : VK) (E : XK), A.guards = some [] → Room k (A.deeper (envOfC qual scope s.heap.objs.size f fd.code)) → sp vs H Q E →
      ∃ t, PSs (cxOf CX P w K mg base N qual scope f fd.code A outer s H E) body t ∧ t { nx := fun _ H' => Q .non H', rt := Q } (start N vs) H) : FnOkG P w K mg base CX (k + 1) f fd ps sp := by
  obtain ⟨oc, od, dV, kV, doc, pm, an, cdv, ct, osl, rfl, lk, hcd, _, _⟩ := F.ex
  refine ⟨len, fun A outer s H args us vs Q E hr hgd e0 hb r hsp => ?_⟩
  exact LamX.run_ofS (N := N) lk hcd S hr e0 hb r (len _ _ _ _ hsp) fun hr' => hbody A outer s H vs Q E hgd hr' hsp
theorem code_of (F : L2.FunD K x qual params body scope dvs kws f (fdAt K f)) : (fdAt K f).code = .ref (codeAt K f) := by
  obtain ⟨oc, od, dV, kV, doc, pm, an, cdv, ct, osl, e, lk, hcd, _, _⟩ := F.ex
  have ec : (fdAt K f).code = cdv := by rw [e]
  unfold codeAt
  rw [ec]
  cases cdv <;> first
    | rfl
    | (simp [PySem.W.codeIn] at hcd)
end
theorem pe_lam {X : Cx} {T : List (Addr × Str)} {TT : (XK → Hp → VK → Prop) → Hp → VK → Prop} {x a : Str} {g c Pt : Addr} {k : Nat} {pg : Arguments} {bg : List Stmt} {sg : Scope} {fd : FuncData} {Ng : List Str}
    {params : Arguments} {body : Expr} {scope : Scope} {t : XK → TE} {p lpos pos : Pos} (hm : X.mg x = some (.ref g)) (F : L2.FunD X.K x x pg bg sg [] [] g fd) (b : L2.Binds X.K fd [a] []) (Sg : FnScope Ng [a] sg) (hNg : Ng[0]? = some a) (hva : Vis sg a)
    (hG : ∀ cdg, LamX.GivesTo X Ng x sg g cdg bg a (X.env.qual ++ "<lambda>") TT) (TB : LamX.TabB X.base X.mg c Pt) (hcode : X.env.code = .ref c) (hmT : (Pt, X.env.qual ++ "<lambda>") ∈ T) (hu : ∀ p ∈ T, p.1 = Pt → p.2 = X.env.qual ++ "<lambda>")
    (hr : Room (k + 2) X.A) (L : LamX.LamS X.env.scope scope) (hdef : defaultsOf params X.env = ([], []))
    (hbind : ∀ (q : Str) (cl : List (Str × Addr)) (pm cv ctv : Value), bindArgs (PySem.W.kla_fn "<lambda>" q params body scope cl pm cv ctv) ⟨[], []⟩ = pure [])
    (hbody : ∀ (A : Around) (outer : List Env) (s : Shared) (H : Hp) (E : XK) (f c' : Addr), Room k (A.deeper (LamX.lamEnv X scope s.heap.objs.size f c')) → PE (LamX.lamCx X A outer s H E scope f c') body (t E))
    (hg : Gl X x := by rfl) (hdb : (x == ("__debug__" : Str)) = false := by decide) (hd : (a == ("__debug__" : Str)) = false := by decide) (hcd : (a == ("__classdict__" : Str)) = false := by decide) :
    PE X (.Call (.Name x p) [.Lambda params body scope lpos] [] pos) (LamX.tLam T TT t) := by
  obtain ⟨oc, od, dV, kV, doc, pm, an, cdv, ct, osl, rfl, lk, hcd', _, _⟩ := F.ex
  exact LamX.pe_lamcall hg hm F.kp lk hcd' b Sg hNg hva (hG _) TB hcode hmT hu hr L hdef hbind hbody hdb hd hcd
theorem go_lam {σ : St} {H : Hp} {Q : VK} {T : List (Addr × Str)} {TT : (XK → Hp → VK → Prop) → Hp → VK → Prop} {t : XK → TE} (h : LamX.Tabs T H) (k : ∀ H1, LamX.ExtN H H1 → LamX.Tabs T H1 → TT (fun E H' Q' => t E σ H' Q') H1 Q) : LamX.tLam T TT t σ H Q := ⟨h, k⟩

/-! ### values of the built-in kinds -/
inductive OddV (H : Hp) : V → String → Prop
  | non : OddV H .non "NoneType"
  | int (i : Int) : OddV H (.int i) "int"
  | bl (b : Bool) : OddV H (.bl b) "bool"
  | str (x : Str) : OddV H (.str x) "str"
  | lst {a : Addr} {xs : List V} (e : H a = some (.lst xs)) : OddV H (.ref a) "list"
  | tup {a : Addr} {xs : List V} (e : H a = some (.tup xs)) : OddV H (.ref a) "tuple"
  | dK {a : Addr} {kvs : List (Key × V)} (e : H a = some (.dK kvs)) : OddV H (.ref a) "dict"
theorem OddV.ty {K : PySem.W.Frag} {H : Hp} {v : V} {n : String} (h : OddV H v n) : TyX K H v (.type n) := by
  cases h with
  | non => exact .base .non
  | int i => exact .base (.int i)
  | bl b => exact .base (.bl b)
  | str x => exact .base (.str x)
  | lst e => exact .base (.lst e)
  | tup e => exact .base (.tup e)
  | dK e => exact .base (.dK e)
theorem OddV.ext {H H' : Hp} {v : V} {n : String} (h : OddV H v n) (x : LamX.ExtN H H') : OddV H' v n := by
  cases h with
  | non => exact .non
  | int i => exact .int i
  | bl b => exact .bl b
  | str s => exact .str s
  | lst e => exact .lst (x _ _ e fun _ z => by cases z)
  | tup e => exact .tup (x _ _ e fun _ z => by cases z)
  | dK e => exact .dK (x _ _ e fun _ z => by cases z)
theorem OddV.same {H H' : Hp} {v : V} {n : String} (h : OddV H v n) (s : Same H H') : OddV H' v n := h.ext (LamX.ExtN.of s)

theorem OddV.put {H : Hp} {l : Addr} {xs ys : List V} {v : V} {n : String} (h : OddV H v n) (e : H l = some (.lst xs)) : OddV (upd H l (.lst ys)) v n := by
  cases h with
  | non => exact .non
  | int i => exact .int i
  | bl b => exact .bl b
  | str s => exact .str s
  | @lst a zs q =>
    by_cases z : a = l
    · subst z
      exact .lst upd_same
    · exact .lst ((upd_ne z).trans q)
  | @tup a zs q => exact .tup ((upd_ne (ne_of q e (by intro z; cases z))).trans q)
  | @dK a zs q => exact .dK ((upd_ne (ne_of q e (by intro z; cases z))).trans q)
/-! ### appending, repeating, data of texts -/
section
variable {K : PySem.W.Frag} {H : Hp} {Q : VK} {σ : St}
def rBMA (K : PySem.W.Frag) (t : TA) (σ : St) (x : V) (H1 : Hp) (Q : VK) : Prop := tyV K "list" x H1 ∧ t σ H1 fun xs H2 => rAppend x xs H2 Q
theorem go_bma {to : TE} {t : TA} (k : to σ H fun x H1 => rBMA K t σ x H1 Q) : tBM K "list" rAppend to t σ H Q := k
theorem go_bmax {l : Addr} {xs : List V} {t : TA} (h : SqL K H l xs) (k : t σ H fun vs H2 => rAppend (.ref l) vs H2 Q) : rBMA K t σ (.ref l) H Q := ⟨.inl ⟨rfl, xs, h⟩, k⟩
theorem go_app {l : Addr} {xs : List V} {y : V} (h : H l = some (.lst xs)) (sz : xs.length ≤ 100000) (k : Q .non (upd H l (.lst (xs ++ [y])))) : rAppend (.ref l) [y] H Q :=
  ⟨l, xs, y, rfl, rfl, h, Nat.lt_of_le_of_lt sz (by decide), k⟩
theorem go_appl {l : Addr} {xs ys : List V} {y : V} (h : H l = some (.lst xs)) (sz : xs.length ≤ 100000) (e : xs ++ [y] = ys) (k : Q .non (upd H l (.lst ys))) : rAppend (.ref l) [y] H Q := by
  subst e
  exact go_app h sz k
theorem go_dnew (k : ∀ p, H p = none → Q (.ref p) (upd H p (.dK []))) : tDNewK σ H Q := k
theorem go_rep {l : Addr} {n : Int} {xs ys : List V} (h : H l = some (.lst xs)) (n0 : 0 ≤ n) (n1 : n ≤ 1000) (sz : xs.length ≤ 1000) (e : (List.replicate n.toNat xs).flatten = ys) (k : ∀ p, H p = none → Q (.ref p) (upd H p (.lst ys))) : rRep (.ref l) (.int n) H Q := by
  subst e
  refine ⟨l, n, xs, rfl, rfl, h, by omega, by omega, ?_, k⟩
  exact Nat.le_trans (Nat.mul_le_mul sz (show n.toNat ≤ 1000 by omega)) (by decide)
theorem dpStrs : ∀ ns : List Str, DpAll K H (ns.map V.str) (ns.map PyData.str)
  | [] => .nil
  | n :: ns => .cons (.str n) (dpStrs ns)
theorem depthStrs : ∀ ns : List Str, PyData.depthAll (ns.map PyData.str) ≤ 1
  | [] => by decide
  | n :: ns => by
    have h := depthStrs ns
    show PyData.depthAll (PyData.str n :: ns.map PyData.str) ≤ 1
    rw [PyData.depthAll]
    have e : (PyData.str n).depth ≤ 1 := by rw [PyData.depth]; omega
    omega
theorem shStrs (ns : List Str) (lay : PyData.canLayAll0 (ns.map PyData.str) = true) : SeqAt.shaped (.list (ns.map PyData.str)) = true := by
  unfold SeqAt.shaped
  rw [PyData.canLay0, lay, PyData.depth]
  have := depthStrs ns
  simp
  omega
theorem eqvStrs : ∀ ns ms : List Str, PyData.eqvAll (ns.map PyData.str) (ms.map PyData.str) = decide (ns = ms)
  | [], [] => by rw [List.map_nil, PyData.eqvAll]; rfl
  | [], _ :: _ => by rw [List.map_nil, List.map_cons, PyData.eqvAll]; rfl
  | _ :: _, [] => by rw [List.map_nil, List.map_cons, PyData.eqvAll]; rfl
  | n :: ns, m :: ms => by
    rw [List.map_cons, List.map_cons, PyData.eqvAll, eqvStrs ns ms, PyData.eqv]
    by_cases h : n = m
    · by_cases h2 : ns = ms
      · subst h h2; simp
      · simp [h, h2]
    · simp [h]
theorem go_neStrs {a b : Addr} {ns ms : List Str} (ha : SqL K H a (ns.map V.str)) (hb : SqL K H b (ms.map V.str)) (la : PyData.canLayAll0 (ns.map PyData.str) = true) (lb : PyData.canLayAll0 (ms.map PyData.str) = true) (k : Q (.bl (!decide (ns = ms))) H) :
    rNeD K (.ref a) (.ref b) H Q := by
  refine ⟨_, _, .lst ha (dpStrs ns), .lst hb (dpStrs ms), shStrs ns la, shStrs ms lb, ?_⟩
  rw [PyData.eqv, eqvStrs]
  exact k
end
theorem tabs_nil {H : Hp} {P : Addr} {q : Str} (h : H P = some (.tbl #[])) : LamX.Tabs [(P, q)] H := fun p hp => by
  cases List.mem_singleton.mp hp
  exact LamX.TabS.nil h

/-! ### the end of a law over the Hook of systems -/
theorem walk_ofGE {l : PySem.W.OpenLaw} {n k : Nat} {q : Program} {loose : List Str} {XP : (Str → Option Value) → Heap → Prop} {YP : World → Heap → Prop} {d : DefRec}
    {CX : World → CXT} {x : Str} (hn : l.most = some n) (hn2 : n ≤ sizeLine) (hdf : d.params.defaults = []) (hr : Room k callerA)
    (F : ∀ (w : World) (mg : Str → Option Value) (fa : Addr) (h : Heap), YP w h → h.Ns mainGlobals mg → mg d.name = some (.ref fa) → ∃ K : PySem.W.Frag, K.In h ∧ LawAtG l w K (CX w) k n x mg fa h)
    (hCX : ∀ (w : World) (H : Hp) (s : Shared) (e : Value) (s' : Shared), CX w [] H s (fun _ _ _ => False) e s' → False) :
    PySem.W.WalkO q loose XP YP l.row.toRowW d [] (fun f vs => PySem.call f vs) := by
  refine Att.attach_callB hn hdf fun w s0 s1 mg mb fa o pm cd doc a vs ns G Y ho hd hcd hmg hobj hints hlen hbits hg => ?_
  obtain ⟨K, KX, fd, cs, sp, hT, nT, C, hb, hsp, hF⟩ := F w mg fa _ Y G.T.g hmg
  exact law_callG KX G.T.g G.T.b G.T.builtins G.T.nolimit hg hT nT C G.T.bmain hobj hints (Nat.le_trans hlen hn2) hr hF hb
    (fun H hH hS => hsp H a ns hlen hbits hH hS) fun H e s' => hCX w H s1 e s'
theorem tabs_of {y : Sys} {K : PySem.W.Frag} {h : Heap} (KX : K.In h) (c : SaysC y h K) :
    (∀ p ∈ y.tf.map fun q => tabAt K (q.adr K), h.get? p.2 = some { cls := .none, data := .fields #[] }) ∧ (∀ p ∈ y.tf.map fun q => tabAt K (q.adr K), K.lookup p.2 = none) ∧
    ∀ p ∈ y.tf.map fun q => tabAt K (q.adr K), PySem.W.CodeHd h p.1 p.2 := by
  refine ⟨fun p hp => ?_, fun p hp => ?_, fun p hp => ?_⟩
  · obtain ⟨q, hq, rfl⟩ := List.mem_map.mp hp
    exact c.empty q hq
  · obtain ⟨q, hq, rfl⟩ := List.mem_map.mp hp
    exact c.out q hq
  · obtain ⟨q, hq, rfl⟩ := List.mem_map.mp hp
    exact PySem.W.codeHd_of_K KX (c.hd q hq)
end CT
namespace CT
open PySem PySem.Spec PyProof.Rows L2
open He (ga ma fAd)
open AutoSeq1 (wpAny_loadPart')
open MeetsSeq

/-! ### comparisons whose left operand is of a built-in kind, the right one an instance with the turned method -/
/-- the object at l is no instance of the built-in type T -/
def NoInst (l : Addr) (T : String) (s : Shared) : Prop := ∀ (prog : Program) (w : World) (A : Around) (Q : Bool → Shared → Prop) (E : Value → Shared → Prop), Q false s → wpAny (model prog w) A (isInstance (.ref l) (.type T)) Q E s




























theorem dl_none_eq (l : Addr) : Gives (Builtin.«NoneType.__eq__» ⟨[.none, .ref l], []⟩) (.val (Value.notImplemented)) :=
  .of_wp fun M A E s Q h => by obtain ⟨hp, g, d, tk, os⟩ := s; wp_walk; exact ⟨_, rfl, h⟩
theorem dl_int_eq (b : Int) (u : Tok) (l C dx : Addr) : Meets (Builtin.«int.__eq__» ⟨[.int b u, .ref l], []⟩) (fun _ R s => s.heap.get? l = some (PySem.W.instObj C dx) ∧ R (.ok (.ret .notImplemented)) s) :=
  .of_wp fun prog w A R s h => by obtain ⟨hp, g, d, tk, os⟩ := s; obtain ⟨hl, h⟩ := h; wp_walk using wpAny_loadPart' hl, wpAny_load hl; exact ⟨_, rfl, h⟩
theorem dl_bool_eq (b : Bool) (l C dx : Addr) : Meets (Builtin.«int.__eq__» ⟨[.bool b, .ref l], []⟩) (fun _ R s => s.heap.get? l = some (PySem.W.instObj C dx) ∧ R (.ok (.ret .notImplemented)) s) :=
  .of_wp fun prog w A R s h => by obtain ⟨hp, g, d, tk, os⟩ := s; obtain ⟨hl, h⟩ := h; wp_walk using wpAny_loadPart' hl, wpAny_load hl; exact ⟨_, rfl, h⟩
theorem dl_str_eq (b : Str) (u : Tok) (l C dx : Addr) : Meets (Builtin.«str.__eq__» ⟨[.str b u, .ref l], []⟩) (fun _ R s => s.heap.get? l = some (PySem.W.instObj C dx) ∧ R (.ok (.ret .notImplemented)) s) :=
  .of_wp fun prog w A R s h => by obtain ⟨hp, g, d, tk, os⟩ := s; obtain ⟨hl, h⟩ := h; wp_walk using wpAny_loadPart' hl, wpAny_load hl; exact ⟨_, rfl, h⟩
theorem dl_list_eq (a l : Addr) : Meets (Builtin.«list.__eq__» ⟨[.ref a, .ref l], []⟩) (fun _ R s => NoInst l "list" s ∧ R (.ok (.ret .notImplemented)) s) :=
  .of_wp fun prog w A R s h => by obtain ⟨hp, g, d, tk, os⟩ := s; obtain ⟨hl, h⟩ := h; have hl' := @hl prog w; wp_walk using hl'; exact ⟨_, rfl, h⟩
theorem dl_tuple_eq (a l : Addr) : Meets (Builtin.«tuple.__eq__» ⟨[.ref a, .ref l], []⟩) (fun _ R s => NoInst l "tuple" s ∧ R (.ok (.ret .notImplemented)) s) :=
  .of_wp fun prog w A R s h => by obtain ⟨hp, g, d, tk, os⟩ := s; obtain ⟨hl, h⟩ := h; have hl' := @hl prog w; wp_walk using hl'; exact ⟨_, rfl, h⟩
theorem dl_dict_eq (a l : Addr) (o : Obj) (es : Array DictEntry) (ep : Nat) (_ : o.data = .dict es ep) : Meets (Builtin.«dict.__eq__» ⟨[.ref a, .ref l], []⟩) (fun _ R s => s.heap.get? a = some o ∧ NoInst l "dict" s ∧ R (.ok (.ret .notImplemented)) s) :=
  .of_wp fun prog w A R s h => by obtain ⟨hp, g, d, tk, os⟩ := s; obtain ⟨ha, hl, h⟩ := h; have hl' := @hl prog w; wp_walk using hl', wpAny_loadPart' ha, wpAny_load ha; exact ⟨_, rfl, h⟩







theorem dict_obj {X : Cx} {pins : List (Addr × Obj)} {σ : L2.St} {H : Hp} {s : Shared} {a : Addr} {kvs : List (Key × V)} (I : Inv X pins σ H s) (e : H a = some (.dK kvs)) : ∃ (o : Obj) (es : Array DictEntry) (ep : Nat), s.heap.get? a = some o ∧ o.data = .dict es ep ∧ s.TypeIs (.ref a) "dict" := by
  obtain ⟨_, _, vs, _, hd⟩ := (show ObjOk X.prog X.w H s.heap a (.dK kvs) from I.hok a _ e)
  obtain ⟨o, es, ep, ho, hx, hdd, _⟩ := hd
  exact ⟨o, es, ep, ho, hdd, ⟨o, ho, hx.1⟩⟩
/-- the left operand's own method declines -/
def Decl (s : Shared) (u b : Value) (n : String) (nm : Str) : Prop := ∃ id, Slot n nm id ∧ s.TypeIs u n ∧ ∀ (prog : Program) (w : World) (A : Around) (Q : Value → Shared → Prop) (E : Value → Shared → Prop), Q .notImplemented s → wpAny (model prog w) A (call (.builtin id) [u, b]) Q E s




theorem decl_eq {X : Cx} {pins : List (Addr × Obj)} {σ : L2.St} {H : Hp} {s : Shared} {v : V} {u : Value} {n : String} {l C dx : Addr} (I : Inv X pins σ H s) (o : OddV H v n) (r : RelV v u) (hl : s.heap.get? l = some (PySem.W.instObj C dx)) (hn : NoInst l n s) :
    Decl s u (.ref l) n (cmpInfo .Eq).2.1 := by
  cases o with
  | non =>
    cases (show u = Value.none from r)
    exact ⟨_, F.slot_NoneType_eq, rfl, fun prog w A Q E q => call_gives F.slot_NoneType_eq rfl F.entry_NoneType_eq (F.args_NoneType_eq_2 _ _) (dl_none_eq l) q⟩
  | int i =>
    obtain ⟨t, q⟩ := (show ∃ t, u = Value.int i t from r)
    cases q
    exact ⟨_, F.slot_int_eq, typeIs_int s i t, fun prog w A Q E q => call_meets F.slot_int_eq (typeIs_int s i t) F.entry_int_eq (F.args_int_eq_2 _ _) (dl_int_eq i t l C dx) ⟨hl, q⟩⟩
  | bl b =>
    cases (show u = Value.bool b from r)
    exact ⟨_, F.slot_bool_eq, rfl, fun prog w A Q E q => call_meets F.slot_bool_eq rfl F.entry_int_eq (F.args_int_eq_2 _ _) (dl_bool_eq b l C dx) ⟨hl, q⟩⟩
  | str x =>
    obtain ⟨t, q⟩ := (show ∃ t, u = Value.str x t from r)
    cases q
    exact ⟨_, F.slot_str_eq, typeIs_str s x t, fun prog w A Q E q => call_meets F.slot_str_eq (typeIs_str s x t) F.entry_str_eq (F.args_str_eq_2 _ _) (dl_str_eq x t l C dx) ⟨hl, q⟩⟩
  | @lst a xs e =>
    cases (show u = Value.ref a from r)
    obtain ⟨its, rv, p, hz⟩ := I.list (.of (K := X.K) e)
    have ht : s.TypeIs (.ref a) "list" := let ⟨o, _, h1, h2, _⟩ := p; ⟨o, h1, h2⟩
    exact ⟨_, F.slot_list_eq, ht, fun prog w A Q E q => call_meets F.slot_list_eq ht F.entry_list_eq (F.args_list_eq_2 _ _) (dl_list_eq a l) ⟨hn, q⟩⟩
  | @tup a xs e =>
    cases (show u = Value.ref a from r)
    obtain ⟨its, rv, p, hz⟩ := I.tuple (.of (K := X.K) e)
    have ht : s.TypeIs (.ref a) "tuple" := p.typeIs
    exact ⟨_, F.slot_tuple_eq, ht, fun prog w A Q E q => call_meets F.slot_tuple_eq ht F.entry_tuple_eq (F.args_tuple_eq_2 _ _) (dl_tuple_eq a l) ⟨hn, q⟩⟩
  | @dK a kvs e =>
    cases (show u = Value.ref a from r)
    obtain ⟨o, es, ep, ho, hd, ht⟩ := dict_obj I e
    exact ⟨_, F.slot_dict_eq, ht, fun prog w A Q E q => call_meets F.slot_dict_eq ht F.entry_dict_eq (F.args_dict_eq_2 _ _) (dl_dict_eq a l o es ep hd) ⟨ho, hn, q⟩⟩

section
variable {prog : Program} {w : World} {A : Around} {E : Value → Shared → Prop} {s : Shared} {K : PySem.W.Frag} {x C f L : Addr} {ox : Obj} {od : Option Obj} {b : Value} {h0 : Heap} {m : Str → Option Value}
theorem cmp_R {op : CmpOp} {n : String} {Q : Value → Shared → Prop} (hu : A.units < cLine) (FF : PyProof.Rows.Fr h0 L s.heap m) (X0 : K.In h0) (I : PySem.W.InstAt s.heap x ox C od) (d : Decl s b (.ref x) n (cmpInfo op).2.1)
    (hn : PySem.W.mroIn K C (.type n) = some false) (hs : PySem.W.findIn K (.ref C) (cmpInfo op).2.2 = some (some (.ref f))) (hf : PySem.W.isFn K (.ref f) = true)
    (h : wpAny (model prog w) A (call (.ref f) [.ref x, b]) (PySem.W.CmpBack Q) E s) : wpAny (model prog w) A (richCompare op b (.ref x)) Q E s := by
  have X := X0.keeps FF.keep
  obtain ⟨id, slot, hT, dec⟩ := d
  have one : wpAny (model prog w) A (tryCompare (.ref x) (cmpInfo op).2.2 b) (fun r s' => ∃ v, r = some v ∧ Q v s') E s := by
    unfold tryCompare
    refine wpAny_bind (PySem.W.ifBound_K X I hs hf (wpAny_mono h (fun v s' hv => ?_) fun _ _ e => e))
    cases v <;> first | exact hv.elim | exact wpAny_pure ⟨_, rfl, hv⟩
  rcases hi : cmpInfo op with ⟨sym, f1, r1⟩
  rw [hi] at slot one
  unfold richCompare
  simp only [hi, hT.oneThing_none]
  try with_reducible refine wpAny_holding ?_
  refine wpAny_bind (wpAny_cRoomFor hu ?_)
  refine wpAny_bind (wpAny_typeOf hT (wpAny_bind (I.type.here ?_)))
  have ne : (Value.type n != Value.ref C) = true := rfl
  simp only [ne, if_true]
  refine wpAny_bind ((PySem.W.looks_mroIn X hn).here ?_)
  simp only [Bool.false_eq_true, if_false, Bool.not_false, if_true]
  refine wpAny_bind (m := tryCompare b _ (.ref x)) (wpAny_tryCompare_declines hT slot (dec prog w A _ E ⟨rfl, ?_⟩))
  refine wpAny_bind (m := tryCompare (.ref x) _ b) (wpAny_mono one (fun r s' z => ?_) fun _ _ e => e)
  obtain ⟨v, rfl, hq⟩ := z
  exact wpAny_pure hq
end
section
variable {X : Cx} {C : Addr}
theorem noInst {pins : List (Addr × Obj)} {σ : L2.St} {H : Hp} {s : Shared} {a dx : Addr} {fs : List (Str × V)} {n : String} (I : Inv X pins σ H s) (ha : H a = some (.ins C dx fs)) (hn : PySem.W.mroIn X.K C (.type n) = some false) : NoInst a n s := by
  intro prog w A Q E q
  obtain ⟨mA, J, _⟩ := ins_get I.hok ha
  obtain ⟨od, J, _⟩ := J.look
  have sub : PySem.W.Looks (model prog w) s.heap (isInstance (.ref a) (.type n)) false := J.type.andThen (PySem.W.looks_mroIn I.kIn hn)
  exact sub.here q
end
end CT
namespace CT
open PySem PySem.Spec PyProof.Rows L2
open He (ga ma fAd)

/-! ### the laws' pen, its cells by name -/
def Pn (H : Hp) (p c : Addr) (n : Nat) : Prop := ∃ (ns : List Int) (b g : Int), H p = some (.lst [.ref c, .int b, .int g]) ∧ H c = some (.lst (ns.map V.int)) ∧ ns.length ≤ 63 ∧ 0 ≤ b ∧ b ≤ n ∧ c ≠ p
def spPn (K : PySem.W.Frag) : Sp := fun vs H Q _ => ∃ (a : Addr) (ns : List Int), vs = [.ref a] ∧ SqL K H a (ns.map V.int) ∧ ∀ p c H', Pn H' p c 0 → Same H H' → H p = none → H c = none → Q (.ref p) H'
def spDr : Sp := fun vs H Q _ => ∃ (p c : Addr) (m : Int) (n : Nat), vs = [.ref p, .int m] ∧ 0 < m ∧ m < 1000000000000000000000000000000000000000000000000000000000000 ∧ Pn H p c n ∧ n < 1000000 ∧
  ∀ k H', 0 ≤ k → k < m → Pn H' p c (n + 1) → Kp p H H' → Q (.int k) H'
def spPk (K : PySem.W.Frag) : Sp := fun vs H Q _ => ∃ (p c a : Addr) (xs : List V) (n : Nat), vs = [.ref p, .ref a] ∧ (SqL K H a xs ∨ SqT K H a xs) ∧ xs ≠ [] ∧ xs.length ≤ 1000000 ∧ a ≠ p ∧ Pn H p c n ∧ n < 1000000 ∧
  ∀ v H', v ∈ xs → Pn H' p c (n + 1) → Kp p H H' → Q v H'

/-! ### chains of heaps, from the last one back -/
section
variable {K : PySem.W.Frag} {H H0 H1 H2 H' : Hp} {p q a c l : Addr} {n m : Nat} {o : HO}
theorem Pn.lst (h : Pn H p c n) : ∃ xs, H p = some (.lst xs) := by
  obtain ⟨_, _, _, hp, _⟩ := h
  exact ⟨_, hp⟩
theorem Pn.mono (h : Pn H p c n) (l : n ≤ m) : Pn H p c m := by
  obtain ⟨ns, b, g, h1, h2, h3, h4, h5, h6⟩ := h
  exact ⟨ns, b, g, h1, h2, h3, h4, by omega, h6⟩
theorem pn_sm (s : Same H H') (h : Pn H p c n) : Pn H' p c n := by
  obtain ⟨ns, b, g, h1, h2, h3, h4, h5, h6⟩ := h
  exact ⟨ns, b, g, s _ _ h1, s _ _ h2, h3, h4, h5, h6⟩
theorem pn_nw (e : H q = none) (h : Pn H p c n) : Pn (upd H q o) p c n := pn_sm (Same.new e) h
theorem pn_kp (k : Kp l H H') (h : Pn H p c n) (lp : l ≠ p) (lc : l ≠ c) : Pn H' p c n := by
  obtain ⟨ns, b, g, h1, h2, h3, h4, h5, h6⟩ := h
  exact ⟨ns, b, g, k _ _ h1 (Ne.symm lp), k _ _ h2 (Ne.symm lc), h3, h4, h5, h6⟩
theorem pn_xt (e : LamX.ExtN H H') (h : Pn H p c n) : Pn H' p c n := by
  obtain ⟨ns, b, g, h1, h2, h3, h4, h5, h6⟩ := h
  exact ⟨ns, b, g, e _ _ h1 (fun _ z => by cases z), e _ _ h2 (fun _ z => by cases z), h3, h4, h5, h6⟩
theorem kp_sm (s : Same H1 H2) (k : Kp p H H1) : Kp p H H2 := k.trans (CT.Same.kp s)
theorem kp_kp (s : Kp p H1 H2) (k : Kp p H H1) : Kp p H H2 := k.trans s
theorem kp_nw (e : H1 q = none) (k : Kp p H H1) : Kp p H (upd H1 q o) := k.trans (Kp.new e)
theorem kp_ot (s : Kp l H1 H2) (k : Kp p H H1) (e : H l = none) : Kp p H H2 := fun b o h nb => s b o (k b o h nb) fun z => by rw [z, e] at h; cases h
theorem sm_sm (s : Same H1 H2) (k : Same H H1) : Same H H2 := k.trans s
theorem sm_nw (e : H1 q = none) (k : Same H H1) : Same H (upd H1 q o) := k.trans (Same.new e)
theorem sm_ot (s : Kp l H1 H2) (k : Same H H1) (e : H l = none) : Same H H2 := fun b o h => s b o (k b o h) fun z => by rw [z, e] at h; cases h
theorem xt_sm (s : Same H1 H2) (k : LamX.ExtN H H1) : LamX.ExtN H H2 := k.trans (LamX.ExtN.of s)
theorem xt_xt (s : LamX.ExtN H1 H2) (k : LamX.ExtN H H1) : LamX.ExtN H H2 := k.trans s
theorem xt_ot (s : Kp l H1 H2) (k : LamX.ExtN H H1) (e : H l = none) : LamX.ExtN H H2 := fun b o h ht => s b o (k b o h ht) fun z => by rw [z, e] at h; cases h
/-- all but what stands at p, and the tables of code objects -/
def Kx (p : Addr) (H H' : Hp) : Prop := ∀ b o, H b = some o → b ≠ p → (∀ ps, o ≠ .tbl ps) → H' b = some o
theorem Kx.refl (p : Addr) (H : Hp) : Kx p H H := fun _ _ h _ _ => h
theorem kx_sm (s : Same H1 H2) (k : Kx p H H1) : Kx p H H2 := fun b o h nb ht => s b o (k b o h nb ht)
theorem kx_kp (s : Kp p H1 H2) (k : Kx p H H1) : Kx p H H2 := fun b o h nb ht => s b o (k b o h nb ht) nb
theorem kx_kx (s : Kx p H1 H2) (k : Kx p H H1) : Kx p H H2 := fun b o h nb ht => s b o (k b o h nb ht) nb ht
theorem kx_xt (s : LamX.ExtN H1 H2) (k : Kx p H H1) : Kx p H H2 := fun b o h nb ht => s b o (k b o h nb ht) ht
/-- nothing stands there, or a table -/
def NoT (H : Hp) (a : Addr) : Prop := ∀ o, H a = some o → ∃ ps, o = .tbl ps
theorem kx_ot (s : Kp l H1 H2) (k : Kx p H H1) (e : NoT H l) : Kx p H H2 := fun b o h nb ht => s b o (k b o h nb ht) fun z => by
  obtain ⟨ps, q⟩ := e o (z ▸ h)
  exact ht ps q
theorem xt_ot' (s : Kp l H1 H2) (k : LamX.ExtN H H1) (e : NoT H l) : LamX.ExtN H H2 := fun b o h ht => s b o (k b o h ht) fun z => by
  obtain ⟨ps, q⟩ := e o (z ▸ h)
  exact ht ps q
theorem nt_no (e : H a = none) : NoT H a := fun o q => by rw [e] at q; cases q
theorem nt_sm (s : Same H H') (e : NoT H' a) : NoT H a := fun o q => e o (s _ _ q)
theorem nt_xt (s : LamX.ExtN H H') (e : NoT H' a) : NoT H a := fun o q => by
  by_cases z : ∃ ps, o = .tbl ps
  · exact z
  · exact e o (s _ _ q fun ps w => z ⟨ps, w⟩)
theorem nt_pn (k : Kp p H H') (h : Pn H' p c n) (e : NoT H' a) : NoT H a := fun o q => by
  by_cases z : a = p
  · obtain ⟨ns, b, g, hp, _⟩ := h
    obtain ⟨ps, w⟩ := e _ (z ▸ hp)
    cases w
  · exact e o (k _ _ q z)
theorem nt_kx (k : Kx p H H') (h : Pn H' p c n) (e : NoT H' a) : NoT H a := fun o q => by
  by_cases z : a = p
  · obtain ⟨ns, b, g, hp, _⟩ := h
    obtain ⟨ps, w⟩ := e _ (z ▸ hp)
    cases w
  · by_cases y : ∃ ps, o = .tbl ps
    · exact y
    · exact e o (k _ _ q z fun ps w => y ⟨ps, w⟩)
theorem nt_kp {xs : List V} (k : Kp l H H') (h : H' l = some (.lst xs)) (e : NoT H' a) : NoT H a := fun o q => by
  by_cases z : a = l
  · obtain ⟨ps, w⟩ := e _ (z ▸ h)
    cases w
  · exact e o (k _ _ q z)
theorem kx_at (s : Kx p H H') (n : a ≠ p) (h : H a = some o) (t : ∀ ps, o ≠ .tbl ps) : H' a = some o := s a o h n t
theorem xt_at (s : LamX.ExtN H H') (h : H a = some o) (t : ∀ ps, o ≠ .tbl ps) : H' a = some o := s a o h t
theorem pn_ne_new (e : H a = none) (h : Pn H p c n) : a ≠ p := fun z => by
  obtain ⟨xs, hp⟩ := h.lst
  rw [z, hp] at e
  cases e
theorem pn_ne_newc (e : H a = none) (h : Pn H p c n) : a ≠ c := fun z => by
  obtain ⟨_, _, _, _, hc, _⟩ := h
  rw [z, hc] at e
  cases e
theorem pn_ne_o (e : H a = some o) (d : ∀ xs, o ≠ .lst xs) (h : Pn H p c n) : a ≠ p := fun z => by
  obtain ⟨xs, hp⟩ := h.lst
  rw [z, hp] at e
  cases e
  exact d _ rfl
theorem pn_ne_lst {xs : List V} (e : H a = some (.lst xs)) (d : ∀ c b g, xs ≠ [.ref c, .int b, .int g]) (h : Pn H p c n) : a ≠ p := fun z => by
  obtain ⟨_, b, g, hp, _⟩ := h
  rw [z, hp] at e
  cases e
  exact d c b g rfl
theorem ne_old (e : H l = none) (h : H a = some o) : a ≠ l := fun z => by rw [z, e] at h; cases h
theorem kp_none (k : Kp p H H') (h : ∃ xs, H p = some (.lst xs)) (hp : ∃ xs, H' p = some (.lst xs)) (e : H' a = none) : H a = none := by
  cases q : H a with
  | none => rfl
  | some o =>
    by_cases z : a = p
    · obtain ⟨xs, hp⟩ := hp
      rw [z, hp] at e
      cases e
    · rw [k a o q z] at e
      cases e
theorem no_pn (k : Kp p H H') (h : Pn H' p c n) (e : H' a = none) : H a = none := by
  cases q : H a with
  | none => rfl
  | some o =>
    by_cases z : a = p
    · obtain ⟨xs, hp⟩ := h.lst
      rw [z, hp] at e
      cases e
    · rw [k a o q z] at e
      cases e
theorem no_kp {xs : List V} (k : Kp l H H') (h : H' l = some (.lst xs)) (e : H' a = none) : H a = none := by
  cases q : H a with
  | none => rfl
  | some o =>
    by_cases z : a = l
    · rw [z, h] at e
      cases e
    · rw [k a o q z] at e
      cases e
theorem no_sm (s : Same H H') (e : H' a = none) : H a = none := by
  cases q : H a with
  | none => rfl
  | some o => rw [s a o q] at e; cases e
theorem kp_free (k : Kp p H H') (h : Pn H' p c n) (e : H' a = none) : H a = none := no_pn k h e
theorem draw_gm {Q : VK} {E : XK} {m : Int} (hP : Pn H p c n) (hn : n < 1000000) (h0 : 0 < m) (h1 : m < 1000000000000000000000000000000000000000000000000000000000000) (k : ∀ i H', 0 ≤ i → i < m → Pn H' p c (n + 1) → Kp p H H' → Q (.int i) H') :
    spDr ([.ref p, .int m] ++ []) H Q E := ⟨p, c, m, n, rfl, h0, h1, hP, hn, k⟩
theorem pick_gm {Q : VK} {E : XK} {xs : List V} (hP : Pn H p c n) (hn : n < 1000000) (ha : H a = some (.lst xs)) (ap : a ≠ p) (hx : xs ≠ []) (hl : xs.length ≤ 1000000) (k : ∀ v H', v ∈ xs → Pn H' p c (n + 1) → Kp p H H' → Q v H') :
    spPk K ([.ref p, .ref a] ++ []) H Q E := ⟨p, c, a, xs, n, rfl, .inl (SqL.of ha), hx, hl, ap, hP, hn, k⟩
theorem pickt_gm {Q : VK} {E : XK} {xs : List V} (hP : Pn H p c n) (hn : n < 1000000) (ha : H a = some (.tup xs)) (ap : a ≠ p) (hx : xs ≠ []) (hl : xs.length ≤ 1000000) (k : ∀ v H', v ∈ xs → Pn H' p c (n + 1) → Kp p H H' → Q v H') :
    spPk K ([.ref p, .ref a] ++ []) H Q E := ⟨p, c, a, xs, n, rfl, .inr (SqT.of ha), hx, hl, ap, hP, hn, k⟩
theorem tabs_pn {T : List (Addr × Str)} (k : Kp p H H') (h : Pn H p c n) (t : LamX.Tabs T H) : LamX.Tabs T H' := tabs_kp t k h.lst
theorem tabs_ls {T : List (Addr × Str)} {xs : List V} (k : Kp l H H') (h : H l = some (.lst xs)) (t : LamX.Tabs T H) : LamX.Tabs T H' := tabs_kp t k ⟨_, h⟩
theorem tabs_sm {T : List (Addr × Str)} (k : Same H H') (t : LamX.Tabs T H) : LamX.Tabs T H' := tabs_same t k
theorem sq_of {xs : List V} (h : H a = some (.lst xs)) : SqL K H a xs := SqL.of h
/-- a list is put in place -/
theorem put_gm {xs : List V} {R : Hp → Prop} (k : ∀ H', Kp l H H' → H' l = some (.lst xs) → R H') : R (upd H l (.lst xs)) := k _ Kp.put upd_same
end

theorem go_eqI {H : Hp} {Q : VK} {x y : Int} (k : Q (.bl (decide (x = y))) H) : rEq (.int x) (.int y) H Q := by
  refine ⟨rfl, ?_⟩
  have e : decide (V.int x = V.int y) = decide (x = y) := decide_eq_decide.mpr (by simp)
  rw [e]
  exact k
theorem go_neI {H : Hp} {Q : VK} {x y : Int} (k : Q (.bl (!decide (x = y))) H) : rNe (.int x) (.int y) H Q := by
  refine ⟨rfl, ?_⟩
  have e : decide (V.int x = V.int y) = decide (x = y) := decide_eq_decide.mpr (by simp)
  rw [e]
  exact k

section
variable {H : Hp} {Q : VK} {a : Addr}
theorem isN_ref (k : Q (.bl false) H) : rIsN (.ref a) .non H Q := ⟨rfl, k⟩
theorem isN_non (k : Q (.bl true) H) : rIsN .non .non H Q := ⟨rfl, k⟩
theorem isN_int {i : Int} (k : Q (.bl false) H) : rIsN (.int i) .non H Q := ⟨rfl, k⟩
theorem isN_str {x : Str} (k : Q (.bl false) H) : rIsN (.str x) .non H Q := ⟨rfl, k⟩
theorem isN_bl {b : Bool} (k : Q (.bl false) H) : rIsN (.bl b) .non H Q := ⟨rfl, k⟩
theorem notN_ref (k : Q (.bl true) H) : rNotN (.ref a) .non H Q := ⟨rfl, k⟩
theorem notN_non (k : Q (.bl false) H) : rNotN .non .non H Q := ⟨rfl, k⟩
theorem notN_int {i : Int} (k : Q (.bl true) H) : rNotN (.int i) .non H Q := ⟨rfl, k⟩
theorem notN_str {x : Str} (k : Q (.bl true) H) : rNotN (.str x) .non H Q := ⟨rfl, k⟩
theorem notN_bl {b : Bool} (k : Q (.bl true) H) : rNotN (.bl b) .non H Q := ⟨rfl, k⟩
end

section
variable {K : PySem.W.Frag} {H : Hp} {Q : VK} {σ : St} {a l : Addr}
theorem app_gm {xs ys : List V} {y : V} (h : H l = some (.lst xs)) (sz : xs.length ≤ 100000) (e : xs ++ [y] = ys) (k : ∀ H', Kp l H H' → H' l = some (.lst ys) → Q .non H') : rAppend (.ref l) [y] H Q := go_appl h sz e (k _ Kp.put upd_same)
theorem rep_gm {n : Int} {xs ys : List V} (h : H l = some (.lst xs)) (n0 : 0 ≤ n) (n1 : n ≤ 1000) (sz : xs.length ≤ 1000) (e : (List.replicate n.toNat xs).flatten = ys) (k : ∀ p H', H p = none → Same H H' → H' p = some (.lst ys) → Q (.ref p) H') : rRep (.ref l) (.int n) H Q :=
  go_rep h n0 n1 sz e fun p n => k p _ n (Same.new n) upd_same
theorem dnew_gm (k : ∀ p H', H p = none → Same H H' → H' p = some (.dK []) → Q (.ref p) H') : tDNewK σ H Q := go_dnew fun p n => k p _ n (Same.new n) upd_same
theorem sl_gm {lo hi : Option Int} {xs : List V} (h : SqL K H a xs) (k : ∀ p H', H p = none → Same H H' → H' p = some (.lst (cutV xs lo hi)) → Q (.ref p) H') : rSlL K (.ref a) lo hi H Q := newSl h rfl k
theorem lstof_gm {ys : List V} (h : SqL K H a ys ∨ SqT K H a ys) (k : ∀ l H', H l = none → Same H H' → H' l = some (.lst ys) → Q (.ref l) H') : rLstOf K [.ref a] H Q := newLstOf h k
theorem cat_gm {b : Addr} {xs ys zs : List V} (ha : H a = some (.lst xs)) (hb : H b = some (.lst ys)) (e : xs ++ ys = zs) (sz : zs.length ≤ 100000) (k : ∀ l H', H l = none → Same H H' → H' l = some (.lst zs) → Q (.ref l) H') : rCat (.ref a) (.ref b) H Q :=
  newCat ha hb sz e k
end

section
variable {K : PySem.W.Frag} {H H' : Hp} {Q : VK} {v : V} {n : String} {l a b : Addr}
theorem go_eqStrs {ns ms : List Str} (ha : SqL K H a (ns.map V.str)) (hb : SqL K H b (ms.map V.str)) (la : PyData.canLayAll0 (ns.map PyData.str) = true) (lb : PyData.canLayAll0 (ms.map PyData.str) = true) (k : Q (.bl (decide (ns = ms))) H) :
    rEqD K (.ref a) (.ref b) H Q := by
  refine ⟨_, _, .lst ha (dpStrs ns), .lst hb (dpStrs ms), shStrs ns la, shStrs ms lb, ?_⟩
  rw [PyData.eqv, eqvStrs]
  exact k
theorem odd_sm (s : Same H H') (h : OddV H v n) : OddV H' v n := h.same s
theorem odd_xt (s : LamX.ExtN H H') (h : OddV H v n) : OddV H' v n := h.ext s
theorem odd_new {H0 : Hp} (e : H0 l = none) (h : OddV H0 v n) : v ≠ .ref l := by
  rintro rfl
  cases h with
  | lst q => rw [e] at q; cases q
  | tup q => rw [e] at q; cases q
  | dK q => rw [e] at q; cases q
theorem odd_kp (k : Kp l H H') (h : OddV H v n) (d : v ≠ .ref l) : OddV H' v n := by
  cases h with
  | non => exact .non
  | int i => exact .int i
  | bl b => exact .bl b
  | str s => exact .str s
  | lst q => exact .lst (k _ _ q fun z => d (by rw [z]))
  | tup q => exact .tup (k _ _ q fun z => d (by rw [z]))
  | dK q => exact .dK (k _ _ q fun z => d (by rw [z]))
end

/-! ### numbers within bounds -/
theorem mulB {i j B c : Int} (h1 : -B ≤ i) (h2 : i ≤ B) (h3 : 0 ≤ j) (h4 : j ≤ c) : -(B * c) ≤ i * j ∧ i * j ≤ B * c := by
  have hB : 0 ≤ B := by omega
  have a : B * j ≤ B * c := Int.mul_le_mul_of_nonneg_left h4 hB
  have b : i * j ≤ B * j := Int.mul_le_mul_of_nonneg_right h2 h3
  have d : -B * j ≤ i * j := Int.mul_le_mul_of_nonneg_right h1 h3
  rw [Int.neg_mul] at d
  omega
theorem divB {t b B : Int} (h : 0 < b) (h1 : -B ≤ t) (h2 : t ≤ B) : -B ≤ t / b ∧ t / b ≤ B := by
  have hB : 0 ≤ B := by omega
  have a : t / b ≤ B := by
    refine Int.ediv_le_of_le_mul h ?_
    have : B * 1 ≤ B * b := Int.mul_le_mul_of_nonneg_left (by omega) hB
    omega
  have c : -B ≤ t / b := by
    refine (Int.le_ediv_iff_mul_le h).mpr ?_
    have : B * 1 ≤ B * b := Int.mul_le_mul_of_nonneg_left (by omega) hB
    rw [Int.neg_mul]
    omega
  exact ⟨c, a⟩
theorem mem_range {xs : List V} {v : V} (lo hi : Int) (h : v ∈ xs) (c : (xs.all fun v => match v with | .int m => decide (lo ≤ m) && decide (m ≤ hi) | _ => false) = true) : ∃ m, v = .int m ∧ lo ≤ m ∧ m ≤ hi := by
  have z := List.all_eq_true.mp c v h
  cases v with
  | int m =>
    simp only [Bool.and_eq_true, decide_eq_true_eq] at z
    exact ⟨m, rfl, z.1, z.2⟩
  | _ => cases z
end CT
namespace CT
open PySem PySem.Spec PyProof.Rows L2
open He (ga ma fAd)

/-! ### a class's own unary operators, abs, bool, str, len, in -/
section
variable {prog : Program} {w : World} {A : Around} {E : Value → Shared → Prop} {s : Shared} {K : PySem.W.Frag} {x C f L : Addr} {ox : Obj} {od : Option Obj} {h0 : Heap} {m : Str → Option Value}
theorem abs_K {Q : Value → Shared → Prop} (FF : PyProof.Rows.Fr h0 L s.heap m) (X0 : K.In h0) (I : PySem.W.InstAt s.heap x ox C od) (hs : PySem.W.findIn K (.ref C) "__abs__" = some (some (.ref f))) (hf : PySem.W.isFn K (.ref f) = true)
    (h : wpAny (model prog w) A.in1 (call (.ref f) [.ref x]) Q E s) : wpAny (model prog w) A (call (.builtin "abs") [.ref x]) Q E s := by
  refine Calls.call_function_entry kind_abs plain_abs entry_abs (args_abs _) ?_
  unfold Builtin.«abs»
  refine wpAny_bind (m := oneArg "abs" _) (wpAny_pure ?_)
  refine wpAny_bind (m := callSpecial? (.ref x) (Str.ofString "__abs__")) (PySem.W.special_fn (X0.keeps FF.keep) I hs (beq_iff_eq.mp hf) (wpAny_mono h (fun r s' hr => ?_) fun _ _ y => y))
  dsimp only
  exact wpAny_pure ⟨_, rfl, hr⟩
theorem bool_K {Q : Value → Shared → Prop} (FF : PyProof.Rows.Fr h0 L s.heap m) (X0 : K.In h0) (I : PySem.W.InstAt s.heap x ox C od) (hs : PySem.W.findIn K (.ref C) "__bool__" = some (some (.ref f))) (hf : PySem.W.isFn K (.ref f) = true)
    (h : wpAny (model prog w) A.in1.in1 (call (.ref f) [.ref x]) (PySem.W.BoolBack fun b s' => Q (.bool b) s') E s) : wpAny (model prog w) A (call (.type "bool") [.ref x]) Q E s := by
  refine callType_codes (T := "bool") (Bi := Builtin.«object.__init__») (Q₁ := fun r s₁ => ∃ b, r = .bool b ∧ Q r s₁) PySem.F.called_bool (PySem.F.typeCall_bool_1 _) PySem.F.entry_object_init ?_ ?_
  · refine codeAny_of_tree ?_
    show wpAny _ A.in1.in1 (do checkBuiltinCall "bool.__new__" ⟨[.type "bool", .ref x], []⟩; again (.builtin "bool.__new__" ⟨[.type "bool", .ref x], []⟩)) _ _ s
    refine wpAny_bind (wpAny_of_eq (PySem.F.newCall_bool_1 _) (wpAny_pure ⟨plainId_quiet (by decide +kernel) _, codeAny_builtin PySem.F.entry_bool_new ?_⟩))
    rw [Around.under_plainId (by decide +kernel) _]
    obtain ⟨hp, g, d, tk, os⟩ := s
    have f1 := PySem.F.conv_sub_bool
    have tr : ∀ {R : Bool → Shared → Prop} {E' : Value → Shared → Prop}, wpAny (model prog w) A.in1.in1 (call (.ref f) [.ref x]) (PySem.W.BoolBack R) E' ⟨hp, g, d, tk, os⟩ → wpAny (model prog w) A.in1.in1 (truthy (.ref x)) R E' ⟨hp, g, d, tk, os⟩ :=
      fun z => PySem.W.truthy_K FF X0 I hs hf z
    repeat (any_goals (first | assumption | (with_reducible refine tr (wpAny_mono h (fun r s' hr => ?_) (fun _ _ y => y))) | wp_step))
    cases r <;> first | exact hr.elim | exact wpAny_pure ⟨_, rfl, hr⟩
  · rintro obj s₁ ⟨b, rfl, hq⟩
    exact ⟨rfl, PySem.F.args_object_init_2 _ _, object_init_meets PySem.F.called_bool.init.lookup PySem.F.called_bool.made (by decide) prog w A.in1 _ s₁ ⟨rfl, rfl, hq⟩⟩
end
/-- f(x) by x's own method -/
def rOwn1 (C : Addr) (sp : Sp) (E : XK) : V → Hp → VK → Prop := fun x H Q => ∃ a dx fs, x = .ref a ∧ H a = some (.ins C dx fs) ∧ sp [.ref a] H Q E
def rOwnA (C : Addr) (sp : Sp) (E : XK) : List V → Hp → VK → Prop := fun xs H Q => ∃ a dx fs, xs = [.ref a] ∧ H a = some (.ins C dx fs) ∧ sp [.ref a] H Q E
def rOwnB (C : Addr) (sp : Sp) (E : XK) : List V → Hp → VK → Prop := fun xs H Q => ∃ a dx fs, xs = [.ref a] ∧ H a = some (.ins C dx fs) ∧ sp [.ref a] H (fun v H' => ∃ b, v = .bl b ∧ Q (.bl b) H') E
def rOwnS (C : Addr) (sp : Sp) (E : XK) : List V → Hp → VK → Prop := fun xs H Q => ∃ a dx fs, xs = [.ref a] ∧ H a = some (.ins C dx fs) ∧ sp [.ref a] H (fun v H' => ∃ z, v = .str z ∧ Q (.str z) H') E
def rOwnN (C : Addr) (sp : Sp) (E : XK) : List V → Hp → VK → Prop := fun xs H Q => ∃ a dx fs, xs = [.ref a] ∧ H a = some (.ins C dx fs) ∧ sp [.ref a] H (fun v H' => ∃ n : Int, v = .int n ∧ 0 ≤ n ∧ n < 2 ^ 63 ∧ Q (.int n) H') E
section
variable {X : Cx} {CX : CXT} {j k : Nat} {C : Addr} {sp : Sp} {E : XK}
/-- a def is called somewhat deeper, its wishes those of the place -/
theorem run_at {A' : Around} {ps : List Str} {f : Addr} {fd : FuncData} {pins : List (Addr × Obj)} {σ : L2.St} {H : Hp} {s : Shared} {Q : VK} {us : List Value} {vs : List V} (F : FnOk X.prog X.w X.K X.mg X.base CX k f fd ps sp) (hb : Binds X.K fd ps []) (hr : Room k A')
    (e0 : Env0 X.prog X.w X.K X.mg X.base A' X.stack s H) (hx : Passes CX X E) (I : Inv X pins σ H s) (r : Vals vs us) (h : sp vs H Q E) : wpAny (model X.prog X.w) A' (call (.ref f) us) (EP X pins σ Q) X.xe s := by
  have hl := F.len _ _ _ _ h
  refine wpAny_call (codeAny_mono (F.run A' X.stack s H ⟨us, []⟩ us vs _ E hr e0 (by
    have z := hb s us I.kIn (by rw [List.append_nil, ← r.length]; exact hl)
    simpa using z) r h) fun r s' hq => ?_)
  cases r with
  | error e => exact hx pins σ H s e s' I hq
  | ok fl =>
    cases fl with
    | ret w => exact I.after hq
    | next => exact False.elim hq
    | brk => exact False.elim hq
    | cont => exact False.elim hq
theorem un_neg (c : Op X.prog X.w X.K X.mg X.base CX k C "__neg__" sp) (hr : Room j X.A) (hk : k ≤ j) (hx : Passes CX X E) : UnR X (unaryOp .USub) (rOwn1 C sp E) := by
  obtain ⟨f, fd, ps, F, h1, h2, b⟩ := c
  intro pins s σ H x v Q I rx h
  obtain ⟨a, dx, fs, rfl, ha, q⟩ := h
  cases (show v = Value.ref a from rx)
  obtain ⟨mA, J, _⟩ := ins_get I.hok ha
  obtain ⟨od, J, _⟩ := J.look
  obtain ⟨m, hF⟩ := I.fr
  exact PySem.W.ksp_neg hF I.ok.mod.kin J h1 h2 (run_at F b (hr.mono hk) I.env0 hx I (us := [.ref a]) (vs := [.ref a]) (.cons rfl .nil) q)
theorem call_absO (c : Op X.prog X.w X.K X.mg X.base CX k C "__abs__" sp) (hr : Room j X.A) (hk : k + 1 ≤ j) (hx : Passes CX X E) : CallR X (.builtin "abs") (rOwnA C sp E) := by
  obtain ⟨f, fd, ps, F, h1, h2, b⟩ := c
  intro pins s σ H xs us Q I rx h
  obtain ⟨a, dx, fs, rfl, ha, q⟩ := h
  obtain ⟨u, rfl, ru⟩ := vals1 rx
  cases (show u = Value.ref a from ru)
  obtain ⟨mA, J, _⟩ := ins_get I.hok ha
  obtain ⟨od, J, _⟩ := J.look
  obtain ⟨m, hF⟩ := I.fr
  exact abs_K hF I.ok.mod.kin J h1 h2 (run_at F b (hr.mono hk).in1 I.env0.in1 hx I (us := [.ref a]) (vs := [.ref a]) (.cons rfl .nil) q)
theorem call_boolO (c : Op X.prog X.w X.K X.mg X.base CX k C "__bool__" sp) (hr : Room j X.A) (hk : k + 2 ≤ j) (hx : Passes CX X E) : CallR X (.type "bool") (rOwnB C sp E) := by
  obtain ⟨f, fd, ps, F, h1, h2, b⟩ := c
  intro pins s σ H xs us Q I rx h
  obtain ⟨a, dx, fs, rfl, ha, q⟩ := h
  obtain ⟨u, rfl, ru⟩ := vals1 rx
  cases (show u = Value.ref a from ru)
  obtain ⟨mA, J, _⟩ := ins_get I.hok ha
  obtain ⟨od, J, _⟩ := J.look
  obtain ⟨m, hF⟩ := I.fr
  refine bool_K hF I.ok.mod.kin J h1 h2 (wpAny_mono (run_at F b (hr.mono hk).in1.in1 I.env0.in1.in1 hx I (us := [.ref a]) (vs := [.ref a]) (.cons rfl .nil) q) (fun w s' z => ?_) fun _ _ y => y)
  obtain ⟨z', H', I', rz, bb, rfl, qz⟩ := z
  cases (show w = Value.bool bb from rz)
  exact ⟨.bl bb, H', I', rfl, qz⟩
theorem call_strO (c : Op X.prog X.w X.K X.mg X.base CX k C "__str__" sp) (hr : Room j X.A) (hk : k + 2 ≤ j) (hx : Passes CX X E) : CallR X (.type "str") (rOwnS C sp E) := by
  obtain ⟨f, fd, ps, F, h1, h2, b⟩ := c
  intro pins s σ H xs us Q I rx h
  obtain ⟨a, dx, fs, rfl, ha, q⟩ := h
  obtain ⟨u, rfl, ru⟩ := vals1 rx
  cases (show u = Value.ref a from ru)
  obtain ⟨mA, J, _⟩ := ins_get I.hok ha
  obtain ⟨od, J, _⟩ := J.look
  have hr2 := (hr.mono hk)
  refine PySem.W.kso_call (by have := hr2.un; show X.A.units + 1 + 1 < cLine; omega) I.kIn J h1 h2 (wpAny_mono (run_at F b hr2.in1.in1 I.env0.in1.in1 hx I (us := [.ref a]) (vs := [.ref a]) (.cons rfl .nil) q) (fun w s' z => ?_) fun _ _ y => y)
  obtain ⟨z', H', I', rz, zz, rfl, qz⟩ := z
  obtain ⟨t, rfl⟩ := (show ∃ t, w = Value.str zz t from rz)
  exact ⟨.str zz, H', I', ⟨_, rfl⟩, qz⟩
theorem call_lenO (c : Op X.prog X.w X.K X.mg X.base CX k C "__len__" sp) (hr : Room j X.A) (hk : k + 1 ≤ j) (hx : Passes CX X E) : CallR X (.builtin "len") (rOwnN C sp E) := by
  obtain ⟨f, fd, ps, F, h1, h2, b⟩ := c
  intro pins s σ H xs us Q I rx h
  obtain ⟨a, dx, fs, rfl, ha, q⟩ := h
  obtain ⟨u, rfl, ru⟩ := vals1 rx
  cases (show u = Value.ref a from ru)
  obtain ⟨mA, J, _⟩ := ins_get I.hok ha
  obtain ⟨od, J, _⟩ := J.look
  obtain ⟨m, hF⟩ := I.fr
  refine PySem.W.len_K hF I.ok.mod.kin J h1 h2 (wpAny_mono (run_at F b (hr.mono hk).in1 I.env0.in1 hx I (us := [.ref a]) (vs := [.ref a]) (.cons rfl .nil) q) (fun w s' z => ?_) fun _ _ y => y)
  obtain ⟨z', H', I', rz, n, rfl, n0, n1, qz⟩ := z
  obtain ⟨t, rfl⟩ := (show ∃ t, w = Value.int n t from rz)
  exact ⟨⟨n0, n1⟩, .int n, H', I'.tok _, ⟨_, rfl⟩, qz⟩
end
section
variable {H : Hp} {Q : VK} {C a dx : Addr} {fs : List (Str × V)} {sp : Sp} {E : XK}
theorem go_own1 (h : H a = some (.ins C dx fs)) (k : sp [.ref a] H Q E) : rOwn1 C sp E (.ref a) H Q := ⟨a, dx, fs, rfl, h, k⟩
theorem go_ownA (h : H a = some (.ins C dx fs)) (k : sp [.ref a] H Q E) : rOwnA C sp E [.ref a] H Q := ⟨a, dx, fs, rfl, h, k⟩
theorem go_ownB (h : H a = some (.ins C dx fs)) (k : sp [.ref a] H (fun v H' => ∃ b, v = .bl b ∧ Q (.bl b) H') E) : rOwnB C sp E [.ref a] H Q := ⟨a, dx, fs, rfl, h, k⟩
theorem go_ownS (h : H a = some (.ins C dx fs)) (k : sp [.ref a] H (fun v H' => ∃ z, v = .str z ∧ Q (.str z) H') E) : rOwnS C sp E [.ref a] H Q := ⟨a, dx, fs, rfl, h, k⟩
theorem go_ownN (h : H a = some (.ins C dx fs)) (k : sp [.ref a] H (fun v H' => ∃ n : Int, v = .int n ∧ 0 ≤ n ∧ n < 2 ^ 63 ∧ Q (.int n) H') E) : rOwnN C sp E [.ref a] H Q := ⟨a, dx, fs, rfl, h, k⟩
end

/-! ### keywords -/
section
variable {K : PySem.W.Frag} {x qual : Str} {params : Arguments} {body : List Stmt} {scope : Scope} {dvs : List V} {kws : List (Str × V)} {f : Addr} {fd : FuncData} {ps : List Str}
theorem _root_.L2.FunD.kbindsP (F : L2.FunD K x qual params body scope [] kws f fd) (n : Nat) (ks : List Str) (g : {α : Type} → List α → List α → List α)
    (rel : ∀ {vs zs : List V} {us ws : List Value}, Vals vs us → Vals zs ws → Vals (g vs zs) (g us ws))
    (args : ∀ (kV doc pm : Value) (an : Option Addr) (cdv ct : Value) (us ws : List Value), us.length = n → ws.length = ks.length →
      bindArgs (PySem.W.fnOf x qual params body scope .none kV doc pm an cdv ct) ⟨us, ks.zip ws⟩ = pure (ps.zip (g us ws))) :
    KBn K fd ps n ks (fun us ws => g us ws) (fun vs zs => g vs zs) where
  to s us ws _ l1 l2 := by
    rcases F.ex with ⟨_, _, dV, _, _, _, _, _, _, _, same, _, _, none' | ⟨some', _⟩, _⟩
    · rw [same, none'.2]
      exact .of_eq (args _ _ _ _ _ _ us ws l1 l2)
    · exact (some' rfl).elim
  rel := rel
end
/-- C(k = v, ..) with its defaults -/
def MkeK (P : Program) (w : World) (K : PySem.W.Frag) (mg : Str → Option Value) (base : Heap) (CX : CXT) (k : Nat) (x : Str) (sp : Sp) (n : Nat) (ks : List Str) (gV : List V → List V → List V) : Prop :=
  ∃ f fd ps g, FnOk P w K mg base CX k f fd ps sp ∧ Mk K (ga K x) f ∧ mg x = some (.ref (ga K x)) ∧ KBn K fd ps (n + 1) ks g gV
def tMkK (C : Addr) (sp : Sp) (n m : Nat) (gV : List V → List V → List V) (E : XK) (t tk : TA) : TE := fun σ H Q => t σ H fun vs H1 => tk σ H1 fun zs H2 => vs.length = n ∧ zs.length = m ∧ ∀ x dx, H2 x = none → H2 dx = none → dx ≠ x →
  sp (gV (.ref x :: vs) zs) (upd (upd H2 dx (.own x)) x (.ins C dx [])) (fun v H3 => v = .non ∧ Q (.ref x) H3) E
section
variable {X : Cx} {CX : CXT} {j k n : Nat} {x : Str} {sp : Sp} {E : XK} {p pos : Pos} {e : Expr} {es : List Expr} {kws : List Keyword} {ks : List Str} {t tk : TA} {gV : List V → List V → List V} {K' : PySem.W.Frag}
theorem pe_mkeK0 (hK : X.K = K') (c : MkeK X.prog X.w X.K X.mg X.base CX k x sp 0 ks gV) (hr : Room j X.A) (hk : k + 1 ≤ j) (hx : Passes CX X E) (hkw : PK X kws tk) (hg : Gl X x := by rfl)
    (hall : (backToKw pos (keywordEach kws X.env)).all (·.1.isSome) = true := by rfl) (hks : (backToKw pos (keywordEach kws X.env)).filterMap (·.1) = ks := by rfl) (hdb : (x == ("__debug__" : Str)) = false := by decide)
    (hpl : ((backTo pos (starEach [] X.env)).any (·.1) || (backToKw pos (keywordEach kws X.env)).any (·.1.isNone)) = false := by rfl) :
    PE X (.Call (.Name x p) [] kws pos) (tMkK (ga K' x) sp 0 ks.length gV E tNil tk) := by
  subst hK
  obtain ⟨f, fd, ps, g, F, M, hm, b⟩ := c
  exact pe_makeK0 M F (hr.mono hk) hg hm b hx hkw hall hks hdb hpl
theorem pe_mkek (hK : X.K = K') (c : Mke X.prog X.w X.K X.mg X.base CX k x sp) (hr : Room j X.A) (hk : k + 1 ≤ j) (hx : Passes CX X E) (ha : PA X (e :: es) t) (hg : Gl X x := by rfl)
    (hdb : (x == ("__debug__" : Str)) = false := by decide) (he : starEach (e :: es) X.env = (false, eval e X.env) :: starEach es X.env := by rfl)
    (hpl : (backTo pos (starEach es X.env)).any (·.1) = false := by rfl) : PE X (.Call (.Name x p) (e :: es) [] pos) (tMake (ga K' x) sp [] E t) := by
  subst hK
  exact pe_mke c hr hk hx ha hg hdb he hpl
theorem pe_mkedk {dvs : List V} (hK : X.K = K') (c : MkeD X.prog X.w X.K X.mg X.base CX k x sp dvs) (hr : Room j X.A) (hk : k + 1 ≤ j) (hx : Passes CX X E) (ha : PA X (e :: es) t) (hg : Gl X x := by rfl)
    (hdb : (x == ("__debug__" : Str)) = false := by decide) (he : starEach (e :: es) X.env = (false, eval e X.env) :: starEach es X.env := by rfl)
    (hpl : (backTo pos (starEach es X.env)).any (·.1) = false := by rfl) : PE X (.Call (.Name x p) (e :: es) [] pos) (tMake (ga K' x) sp dvs E t) := by
  subst hK
  exact pe_mked c hr hk hx ha hg hdb he hpl
end
def rMkK (C : Addr) (sp : Sp) (n m : Nat) (gV : List V → List V → List V) (E : XK) (vs zs : List V) (H2 : Hp) (Q : VK) : Prop := vs.length = n ∧ zs.length = m ∧ ∀ x dx, H2 x = none → H2 dx = none → dx ≠ x →
  sp (gV (.ref x :: vs) zs) (upd (upd H2 dx (.own x)) x (.ins C dx [])) (fun v H3 => v = .non ∧ Q (.ref x) H3) E
theorem go_mkK {C : Addr} {sp : Sp} {n m : Nat} {gV : List V → List V → List V} {E : XK} {t tk : TA} {σ : L2.St} {H : Hp} {Q : VK} (k : t σ H fun vs H1 => tk σ H1 fun zs H2 => rMkK C sp n m gV E vs zs H2 Q) : tMkK C sp n m gV E t tk σ H Q := k
theorem mkK_of {C : Addr} {sp : Sp} {n m : Nat} {gV : List V → List V → List V} {E : XK} {vs zs ws : List V} {H : Hp} {Q : VK} (hn : vs.length = n) (hm : zs.length = m) (e : ∀ x, gV (.ref x :: vs) zs = .ref x :: ws) (k : rMake C sp E ws H Q) : rMkK C sp n m gV E vs zs H Q :=
  ⟨hn, hm, fun x dx nx nd ne => by
    have z := k x dx nx nd ne
    rw [List.append_nil] at z
    rw [e]
    exact z⟩

/-! ### division by numbers of either sign -/
def CDivV (_ j : Int) : Prop := j ≠ 0 ∧ j.natAbs.log2 < 9000
theorem op_fdivV {X : Cx} : OpR X (binaryOp .FloorDiv) (rI CDivV fun i j => .int (i.fdiv j)) := opI fun _ _ _ _ _ _ _ hc q => floordiv_int hc.1 q (.inl (PyProof.noPylong_of_log2 hc.2))
theorem divV {i j : Int} (h0 : j ≠ 0) (h1 : -1000000000000000000000000000000000000000000000000000000000000 < j) (h2 : j < 1000000000000000000000000000000000000000000000000000000000000) : CDivV i j := by
  refine ⟨h0, Nat.lt_of_lt_of_le (log_lt (k := 200) ?_ (by decide)) (by decide)⟩
  have : (2 : Nat) ^ 200 = 1606938044258990275541962092341162602522202993782792835301376 := by decide
  omega

/-! ### texts put together -/
section
variable {σ : L2.St} {H : Hp} {Q : VK}
def rJs (ts : List TE) (acc : Str) (σ : L2.St) (x : V) (H : Hp) (Q : Str → Hp → Prop) : Prop := ∃ y : Str, x = .str y ∧ (acc ++ y).length ≤ sizeLine ∧ tJs ts (acc ++ y) σ H Q
theorem go_jsc {t : TE} {ts : List TE} {acc : Str} {Q : Str → Hp → Prop} (k : t σ H fun x H1 => rJs ts acc σ x H1 Q) : tJs (t :: ts) acc σ H Q := k
theorem go_jsn {acc : Str} {Q : Str → Hp → Prop} (k : Q acc H) : tJs [] acc σ H Q := k
theorem go_jsx {ts : List TE} {acc y : Str} {Q : Str → Hp → Prop} (l : acc.length + y.length ≤ 10000000) (k : tJs ts (acc ++ y) σ H Q) : rJs ts acc σ (.str y) H Q :=
  ⟨y, rfl, by rw [PySem.Str.length_append]; exact Nat.le_trans l (by decide), k⟩
def rFmt (x : V) (H1 : Hp) (Q : VK) : Prop := (∃ y : Str, x = .str y ∧ y.length ≤ sizeLine ∧ Q (.str y) H1) ∨ ∃ i : Int, x = .int i ∧ i.natAbs.log2 < 1920 ∧ Q (.str (toString i)) H1
theorem go_fmt {te : TE} (k : te σ H fun x H1 => rFmt x H1 Q) : tFmt te σ H Q := k
theorem fmt_int {i : Int} (h : i.natAbs.log2 < 1920) (k : Q (.str (toString i)) H) : rFmt (.int i) H Q := .inr ⟨i, rfl, h, k⟩
theorem fmt_str {y : Str} (h : y.length ≤ 10000000) (k : Q (.str y) H) : rFmt (.str y) H Q := .inl ⟨y, rfl, Nat.le_trans h (by decide), k⟩
theorem repr_bl {K : PySem.W.Frag} {b : Bool} (k : Q (.str (PyData.bool b).shown) H) : rRepr K [.bl b] H Q := by
  cases b
  · exact ⟨_, _, rfl, .bl false, by decide +kernel, by decide +kernel, by decide +kernel, by decide +kernel, k⟩
  · exact ⟨_, _, rfl, .bl true, by decide +kernel, by decide +kernel, by decide +kernel, by decide +kernel, k⟩
end
/-! ### an invariant and a number that falls -/
section
variable {tc : TT} {tb : TS} {D : Ends} {σ : L2.St} {H : Hp}
theorem while_go (W : Nat → L2.St → Hp → Prop) (m : Nat) (h0 : W m σ H)
    (hs : ∀ m σ H, W m σ H → tc σ H fun b H1 => if b = true then ∃ N : L2.St → Hp → Prop, (∀ σ' H', N σ' H' → ∃ m', m' < m ∧ W m' σ' H') ∧ tb { D with nx := N, ct := N, bk := D.nx } σ H1 else D.nx σ H1) : tWhile tc tb D σ H := ⟨W, ⟨m, h0⟩, hs⟩
theorem while_step {W : Nat → L2.St → Hp → Prop} {m : Nat} (k : tb { D with nx := fun σ' H' => ∃ m', m' < m ∧ W m' σ' H', ct := fun σ' H' => ∃ m', m' < m ∧ W m' σ' H', bk := D.nx } σ H) :
    ∃ N : L2.St → Hp → Prop, (∀ σ' H', N σ' H' → ∃ m', m' < m ∧ W m' σ' H') ∧ tb { D with nx := N, ct := N, bk := D.nx } σ H := ⟨_, fun _ _ h => h, k⟩
end

section
variable {σ : L2.St} {H : Hp} {Q : VK} {K : PySem.W.Frag}
/-- some are kept -/
theorem lcListIf {j : Nat} {a : Addr} {xs : List V} {vs : List Nat} {tt : TT} {te : TE} (c : V → Bool) (f : V → V) (hn : xs.length ≤ 100000) (ha : SqL K H a xs) (hw : ∀ v, wipe ((wipe σ vs).set j (some v)) vs = wipe σ vs)
    (ht : ∀ (x : V) (H' : Hp) (Q' : Bool → Hp → Prop), x ∈ xs → Same H H' → (∀ H'', Same H' H'' → Q' (c x) H'') → tt ((wipe σ vs).set j (some x)) H' Q')
    (hs : ∀ (x : V) (H' : Hp) (Q' : VK), x ∈ xs → c x = true → Same H H' → (∀ H'', Same H' H'' → Q' (f x) H'') → te ((wipe σ vs).set j (some x)) H' Q')
    (k : ∀ D H', H D = none → Same H H' → H' D = some (.lst ((xs.filter c).map f)) → Q (.ref D) H') : rLc (Itl K a) (gName j) tt te vs σ H Q := by
  intro D nD
  refine lc_list (K := K) (a := a) (xs := xs) (fun i H' => Same H H' ∧ H' D = some (.lst (((xs.take i).filter c).map f))) ⟨Same.new nD, upd_same⟩ (fun i H' _ p => p.1.seq ha) ?_ fun H' ⟨s, d⟩ => k D H' nD s (by rw [List.take_length] at d; exact d)
  rintro i x H' hi ⟨s, d⟩
  refine ⟨hw _, ?_⟩
  have hx := List.mem_of_getElem? hi
  obtain ⟨hlt, ex⟩ := List.getElem?_eq_some_iff.mp hi
  have step : (xs.take (i + 1)).filter c = (xs.take i).filter c ++ (if c x = true then [x] else []) := by
    rw [List.take_add_one, hi, List.filter_append]
    cases e : c x <;> simp [e]
  refine ht x H' _ hx s fun H1 s1 => ?_
  refine go_b (fun e => ?_) fun e => ?_
  · refine hs x H1 _ hx e (s.trans s1) fun H'' s2 => ?_
    refine ⟨_, s2 _ _ (s1 _ _ d), ?_, ?_, ?_⟩
    · rw [List.length_map]
      have q := List.length_filter_le c (xs.take i)
      rw [List.length_take] at q
      exact Nat.lt_of_lt_of_le (Nat.lt_of_lt_of_le (show ((xs.take i).filter c).length < xs.length by omega) hn) (by decide)
    · exact fun b o h => (upd_ne (ne_of_none h nD)).trans (s2 _ _ (s1 _ _ (s _ _ h)))
    · rw [step, if_pos e, List.map_append]
      exact upd_same
  · refine ⟨s.trans s1, ?_⟩
    rw [step, if_neg (by rw [e]; exact Bool.false_ne_true), List.append_nil]
    exact s1 _ _ d
end
theorem go_kS {y : Str} {R : Str → Prop} (k : R y) : ∃ z, V.str y = .str z ∧ R z := ⟨y, rfl, k⟩
end CT
namespace CT
open PySem PySem.Spec PyProof.Rows L2
open He (ga ma fAd)

/-! ### numbers by their bits -/
/-- of at most k bits -/
def Bt (k : Nat) (i : Int) : Prop := i.natAbs < 2 ^ k
section
variable {i j : Int} {k l m : Nat}
theorem Bt.mono (h : Bt k i) (e : k ≤ l) : Bt l i := Nat.lt_of_lt_of_le h (Nat.pow_le_pow_right (by decide) e)
theorem Bt.neg (h : Bt k i) : Bt k (-i) := by
  unfold Bt
  rw [Int.natAbs_neg]
  exact h
theorem Bt.mul (h : Bt k i) (g : Bt l j) : Bt (k + l) (i * j) := by
  unfold Bt at h g ⊢
  rw [Int.natAbs_mul, Nat.pow_add]
  exact Nat.mul_lt_mul'' h g
theorem Bt.add (h : Bt k i) (g : Bt l j) : Bt (max k l + 1) (i + j) := by
  have h' := h.mono (Nat.le_max_left k l)
  have g' := g.mono (Nat.le_max_right k l)
  unfold Bt at h' g' ⊢
  rw [Nat.pow_succ]
  omega
theorem Bt.sub (h : Bt k i) (g : Bt l j) : Bt (max k l + 1) (i - j) := by
  rw [Int.sub_eq_add_neg]
  exact h.add g.neg
theorem Bt.le (h : Bt k i) (g : j.natAbs ≤ i.natAbs) : Bt k j := Nat.lt_of_le_of_lt g h
theorem Bt.div (h : Bt k i) (g : 0 < j) : Bt (k + 1) (i / j) := by
  unfold Bt at h ⊢
  rw [Nat.pow_succ]
  have a := divB (t := i) (b := j) (B := (2 : Int) ^ k) g (by
    have : ((2 ^ k : Nat) : Int) = (2 : Int) ^ k := by exact_mod_cast rfl
    omega) (by
    have : ((2 ^ k : Nat) : Int) = (2 : Int) ^ k := by exact_mod_cast rfl
    omega)
  have : ((2 ^ k : Nat) : Int) = (2 : Int) ^ k := by exact_mod_cast rfl
  omega
theorem Bt.mod (g : 0 < j) (h : Bt k j) : Bt k (i % j) := by
  have a := Int.emod_nonneg i (show j ≠ 0 by omega)
  have b := Int.emod_lt_of_pos i g
  unfold Bt at h ⊢
  omega
theorem Bt.abs (h : Bt k i) : Bt k (if i < 0 then -i else i) := by
  split
  · exact h.neg
  · exact h
theorem Bt.log (h : Bt k i) (hk : 0 < k) : i.natAbs.log2 < k := by
  by_cases z : i.natAbs = 0
  · rw [z]
    exact hk
  · exact (Nat.log2_lt z).mpr h
theorem Bt.mulW (h : Bt k i) (g : Bt l j) (e : k + l ≤ 900000) : CMulW i j := by
  have a := (h.mono (Nat.le_succ k)).log (Nat.succ_pos k)
  have b := (g.mono (Nat.le_succ l)).log (Nat.succ_pos l)
  show i.natAbs.log2 + j.natAbs.log2 < 1000000
  omega
theorem Bt.divW (h : 0 < j) (g : Bt l j) (e : l ≤ 8000) : CDivW i j := ⟨h, by
  have b := (g.mono (Nat.le_succ l)).log (Nat.succ_pos l)
  omega⟩
theorem Bt.divV (h : j ≠ 0) (g : Bt l j) (e : l ≤ 8000) : CDivV i j := ⟨h, by
  have b := (g.mono (Nat.le_succ l)).log (Nat.succ_pos l)
  omega⟩
theorem Bt.of (k : Nat) (h1 : -(2 : Int) ^ k < i) (h2 : i < (2 : Int) ^ k) : Bt k i := by
  unfold Bt
  have : ((2 ^ k : Nat) : Int) = (2 : Int) ^ k := by exact_mod_cast rfl
  omega
end
end CT
namespace CT
open PySem PySem.Spec PyProof.Rows L2
open He (ga ma fAd)

/-! ### o.m(k = v, ..) -/
def tMethK (C : Addr) (m : Str) (sp : Sp) (l : Nat) (gV : List V → List V → List V) (E : XK) (ta : TE) (tk : TA) : TE := fun σ H Q => ta σ H fun x H1 => ∃ (a dx : Addr) (fs : List (Str × V)), x = .ref a ∧ H1 a = some (.ins C dx fs) ∧ fs.lookup m = none ∧
  tk σ H1 fun zs H2 => zs.length = l ∧ sp (gV [x] zs) H2 Q E
section
variable {X : Cx} {CX : CXT} {k : Nat} {f C : Addr} {fd : FuncData} {ps ks : List Str} {sp : Sp} {E : XK} {m : Str} {apos pos : Pos} {o : Expr} {kws : List Keyword} {ta : TE} {tk : TA} {g : List Value → List Value → List Value} {gV : List V → List V → List V}
theorem pe_methK0 {pl : Sem Bool} (he : PE X o ta) (c : Cls X.K C) (hm : Meth X.K C m f) (F : FnOk X.prog X.w X.K X.mg X.base CX k f fd ps sp) (hr : Room k X.A) (hb : KBn X.K fd ps 1 ks g gV) (hx : Passes CX X E) (hkw : PK X kws tk)
    (hall : (backToKw pos (keywordEach kws X.env)).all (·.1.isSome) = true := by rfl) (hks : (backToKw pos (keywordEach kws X.env)).filterMap (·.1) = ks := by rfl)
    (hpl : ((backTo pos (starEach [] X.env)).any (·.1) || (backToKw pos (keywordEach kws X.env)).any (·.1.isNone)) = false := by rfl)
    (ht : eval (.Call (.Attribute o m apos) [] kws pos) X.env = (do
      let ov ← eval o X.env
      standAt apos.atName
      let (f, first) ← holding [ov] (getMethod ov m pl)
      callWith pos f first (backTo pos (starEach [] X.env)) (backToKw pos (keywordEach kws X.env))) := by rfl) :
    PE X (.Call (.Attribute o m apos) [] kws pos) (tMethK C m sp ks.length gV E ta tk) := by
  refine ⟨fun pins s σ H Q I h => ?_⟩
  refine PySem.W.methodCall_KW (pl := pl) (thn (he.run pins s σ H _ I h) fun u s1 ⟨x, H1, I1, rx, a, dx, fs, ex, ea, l, q⟩ => ?_) ht
  subst ex
  obtain rfl : u = Value.ref a := rx
  refine getmeth_ok I1 ea c hm l ?_
  refine PySem.W.callWith_KW0 (first := [.ref a]) (h₀ := X.base) I.ok.mod.kin hm.kp hall ?_ hpl
  refine thn (hkw.run pos pins s1 σ H1 _ I1 q) fun ws s2 ⟨zs, H2, I2, rz, l2, q2⟩ => ⟨I2.kIn, ?_⟩
  rw [hks]
  exact run_fnN (us := [.ref a]) (vs := [.ref a]) F hr hb hx I2 (.cons rfl .nil) rz rfl l2 q2
end
def MeK (P : Program) (w : World) (K : PySem.W.Frag) (mg : Str → Option Value) (base : Heap) (CX : CXT) (k : Nat) (C : Addr) (m : Str) (sp : Sp) (ks : List Str) (gV : List V → List V → List V) : Prop :=
  ∃ f fd ps g, FnOk P w K mg base CX k f fd ps sp ∧ Cls K C ∧ Meth K C m f ∧ KBn K fd ps 1 ks g gV
section
variable {X : Cx} {CX : CXT} {j k : Nat} {C : Addr} {ks : List Str} {sp : Sp} {E : XK} {m : Str} {apos pos : Pos} {o : Expr} {kws : List Keyword} {ta : TE} {tk : TA} {gV : List V → List V → List V}
theorem pe_mek {pl : Sem Bool} (c : MeK X.prog X.w X.K X.mg X.base CX k C m sp ks gV) (hr : Room j X.A) (hk : k ≤ j) (hx : Passes CX X E) (he : PE X o ta) (hkw : PK X kws tk)
    (hall : (backToKw pos (keywordEach kws X.env)).all (·.1.isSome) = true := by rfl) (hks : (backToKw pos (keywordEach kws X.env)).filterMap (·.1) = ks := by rfl)
    (hpl : ((backTo pos (starEach [] X.env)).any (·.1) || (backToKw pos (keywordEach kws X.env)).any (·.1.isNone)) = false := by rfl)
    (ht : eval (.Call (.Attribute o m apos) [] kws pos) X.env = (do
      let ov ← eval o X.env
      standAt apos.atName
      let (f, first) ← holding [ov] (getMethod ov m pl)
      callWith pos f first (backTo pos (starEach [] X.env)) (backToKw pos (keywordEach kws X.env))) := by rfl) :
    PE X (.Call (.Attribute o m apos) [] kws pos) (tMethK C m sp ks.length gV E ta tk) := by
  obtain ⟨f, fd, ps, g, F, cl, hm, b⟩ := c
  exact pe_methK0 he cl hm F (hr.mono hk) b hx hkw hall hks hpl ht
end
def rMethK (C : Addr) (m : Str) (sp : Sp) (l : Nat) (gV : List V → List V → List V) (E : XK) (tk : TA) (σ : L2.St) (x : V) (H1 : Hp) (Q : VK) : Prop := ∃ (a dx : Addr) (fs : List (Str × V)), x = .ref a ∧ H1 a = some (.ins C dx fs) ∧ fs.lookup m = none ∧
  tk σ H1 fun zs H2 => zs.length = l ∧ sp (gV [x] zs) H2 Q E
theorem go_methK {C : Addr} {m : Str} {sp : Sp} {l : Nat} {gV : List V → List V → List V} {E : XK} {ta : TE} {tk : TA} {σ : L2.St} {H : Hp} {Q : VK} (k : ta σ H fun x H1 => rMethK C m sp l gV E tk σ x H1 Q) : tMethK C m sp l gV E ta tk σ H Q := k
theorem methK_x {C a dx : Addr} {fs : List (Str × V)} {m : Str} {sp : Sp} {n : Nat} {gV : List V → List V → List V} {E : XK} {tk : TA} {σ : L2.St} {H : Hp} {Q : VK} (h : H a = some (.ins C dx fs)) (l : fs.lookup m = none) (k : tk σ H fun zs H2 => zs.length = n ∧ sp (gV [.ref a] zs) H2 Q E) :
    rMethK C m sp n gV E tk σ (.ref a) H Q := ⟨a, dx, fs, rfl, h, l, k⟩
theorem Er1.sm {K : PySem.W.Frag} {x f : Str} {v : V} {H H1 : Hp} {E : XK} (s : Same H H1) (h : Er1 K x f v H E) : Er1 K x f v H1 E := fun d H' n s' hd => h d H' (no_sm s n) (s.trans s') hd
theorem go_aug {i : Nat} {te : TE} {ti : TIp} {D : Ends} {σ : L2.St} {H : Hp} {x : V} (h : σ[i]? = some (some x)) (k : te σ H fun y H1 => ti x y H1 fun z H2 => gName i z σ H2 D.nx) : tAug i te ti D σ H := ⟨x, h, k⟩
end CT
namespace CT
open PySem PySem.Spec PyProof.Rows L2
open He (ga ma fAd)

/-! ### methods of the class: C.m(..), C.m(k = v), and cls(..) within -/
section
variable {K : PySem.W.Frag} {C x : Addr} {m : Str}
theorem cmet_f {x m : Str} (h : (Fc.cmet x m).ok K = true) : ClX.CMet K (ga K x) (clsMc K (ga K x)) m (cmAt K (ga K x) m) (recHead K (cmAt K (ga K x) m) "classmethod") := by
  obtain ⟨h1, h⟩ := ba h
  obtain ⟨h2, h3⟩ := ba h
  refine ⟨?_, ?_, h3⟩
  · unfold cmB at h1
    unfold cmAt
    split at h1
    · rename_i b p D e
      obtain ⟨e1, e2⟩ := ba h1
      have e1' := of_decide_eq_true e1
      have e2' := of_decide_eq_true e2
      subst e1' e2'
      rw [e]
    · cases h1
  · exact recB_ok h2
end
section
variable {P : Program} {w : World} {K : PySem.W.Frag} {mg : Str → Option Value} {base : Heap} {CX : CXT} {k : Nat} {f : Addr} {fd : FuncData} {ps : List Str} {sp : Sp}
theorem fnR_of (F : FnOk P w K mg base CX k f fd ps sp) (b : Binds K fd ps []) : FnR P w K mg base CX k f sp := fun A outer s H us vs Q E hr e0 r h => by
  have kin : K.In s.heap := fun a o q => (e0.bs a o (e0.mod.kin a o q)).1
  have r' : Vals vs (us ++ []) := by rw [List.append_nil]; exact r
  exact F.run A outer s H ⟨us, []⟩ (us ++ []) vs Q E hr e0 (b s us kin (by rw [← r'.length]; exact F.len _ _ _ _ h)) r' h
/-- a method of the class at C -/
def Cm (P : Program) (w : World) (K : PySem.W.Frag) (mg : Str → Option Value) (base : Heap) (CX : CXT) (k : Nat) (C : Addr) (m : Str) (sp : Sp) : Prop :=
  ∃ p g fd ps, FnOk P w K mg base CX k g fd ps sp ∧ ClX.CRead K C (clsMc K C) ∧ ClX.CMet K C (clsMc K C) m p g ∧ Binds K fd ps []
def CmK (P : Program) (w : World) (K : PySem.W.Frag) (mg : Str → Option Value) (base : Heap) (CX : CXT) (k : Nat) (C : Addr) (m : Str) (sp : Sp) (ks : List Str) (gV : List V → List V → List V) : Prop :=
  ∃ p q fd ps g, FnOk P w K mg base CX k q fd ps sp ∧ ClX.CRead K C (clsMc K C) ∧ ClX.CMet K C (clsMc K C) m p q ∧ KBn K fd ps 1 ks g gV
end
section
variable {X : Cx} {CX : CXT} {j k i : Nat} {C : Addr} {ks : List Str} {sp : Sp} {E : XK} {m x : Str} {p apos pos : Pos} {o e : Expr} {es : List Expr} {kws : List Keyword} {ta : TE} {t tk : TA} {gV : List V → List V → List V} {dvs : List V}
theorem pe_cm {pl : Sem Bool} (c : Cm X.prog X.w X.K X.mg X.base CX k C m sp) (hr : Room j X.A) (hk : k ≤ j) (hx : Passes CX X E) (he : PE X o ta) (ha : PA X (e :: es) t)
    (hst : starEach (e :: es) X.env = (false, eval e X.env) :: starEach es X.env := by rfl) (hpl : (backTo pos (starEach es X.env)).any (·.1) = false := by rfl)
    (ht : eval (.Call (.Attribute o m apos) (e :: es) [] pos) X.env = (do
      let ov ← eval o X.env
      standAt apos.atName
      let (f, first) ← holding [ov] (getMethod ov m pl)
      callWith pos f first (backTo pos (starEach (e :: es) X.env)) (backToKw pos (keywordEach [] X.env))) := by rfl) :
    PE X (.Call (.Attribute o m apos) (e :: es) [] pos) (ClX.tCMeth C sp E ta t) := by
  obtain ⟨p, g, fd, ps, F, r, c, b⟩ := c
  exact ClX.pe_cmeth he r c (fnR_of F b) (hr.mono hk) hx ha hst hpl ht
/-- C.m(k = v, ..) -/
def tCMethK (C : Addr) (sp : Sp) (l : Nat) (gV : List V → List V → List V) (E : XK) (ta : TE) (tk : TA) : TE := fun σ H Q => ta σ H fun x H1 => x = .ref C ∧ tk σ H1 fun zs H2 => zs.length = l ∧ sp (gV [.ref C] zs) H2 Q E
theorem pe_cmK {pl : Sem Bool} (c : CmK X.prog X.w X.K X.mg X.base CX k C m sp ks gV) (hr : Room j X.A) (hk : k ≤ j) (hx : Passes CX X E) (he : PE X o ta) (hkw : PK X kws tk)
    (hall : (backToKw pos (keywordEach kws X.env)).all (·.1.isSome) = true := by rfl) (hks : (backToKw pos (keywordEach kws X.env)).filterMap (·.1) = ks := by rfl)
    (hpl : ((backTo pos (starEach [] X.env)).any (·.1) || (backToKw pos (keywordEach kws X.env)).any (·.1.isNone)) = false := by rfl)
    (ht : eval (.Call (.Attribute o m apos) [] kws pos) X.env = (do
      let ov ← eval o X.env
      standAt apos.atName
      let (f, first) ← holding [ov] (getMethod ov m pl)
      callWith pos f first (backTo pos (starEach [] X.env)) (backToKw pos (keywordEach kws X.env))) := by rfl) :
    PE X (.Call (.Attribute o m apos) [] kws pos) (tCMethK C sp ks.length gV E ta tk) := by
  obtain ⟨p, q, fd, ps, g, F, r, c, b⟩ := c
  refine ⟨fun pins s σ H Q I h => ?_⟩
  refine PySem.W.methodCall_KW (pl := pl) (thn (he.run pins s σ H _ I h) fun u s1 ⟨x, H1, I1, rx, ex, q1⟩ => ?_) ht
  subst ex
  cases (show u = Value.ref C from rx)
  refine ClX.getmethcm_ok I1 r c fun s2 I2 => ?_
  refine PySem.W.callWith_of hpl (PySem.W.keeps_M (self := Value.ref C) c.fi) (PyProof.Rows.evalArgs_kw2_nil hall (Q := fun a s₁ => PySem.W.MethP X.K s1.heap.objs.size q (Value.ref C) s₁.heap ∧ wpAny (model X.prog X.w) X.A (call (.ref s1.heap.objs.size) ([] ++ a.pos) a.kw) (EP X pins σ Q) X.xe s₁) ?_)
  refine thn (hkw.run pos _ s2 σ H1 _ I2 q1) fun ws s3 ⟨zs, H2, I3, rz, l2, q2⟩ => ⟨⟨ClX.pin_at I3, I3.kIn⟩, ?_⟩
  rw [hks]
  refine thn (Q := EP X ((s1.heap.objs.size, PySem.W.methodObj (.ref q) (.ref C)) :: pins) σ Q) ?_ fun _ _ y => ClX.unpinE y
  refine wpAny_call (PySem.W.method_call (ClX.pin_at I3) ?_)
  refine codeAny_mono (F.run X.A X.stack s3 H2 ⟨[.ref C], ks.zip ws⟩ (g [.ref C] ws) (gV [.ref C] zs) Q E (hr.mono hk) I3.env0 (b.to s3 [.ref C] ws I3.kIn rfl (rz.length.symm.trans l2)) (b.rel (.cons rfl .nil) rz) q2) fun r s' hq => ?_
  cases r with
  | error e => exact hx _ σ H2 s3 e s' I3 hq
  | ok fl =>
    cases fl with
    | ret u => exact I3.after hq
    | next => exact False.elim hq
    | brk => exact False.elim hq
    | cont => exact False.elim hq
/-- cls(..), where a slot holds the class -/
def tMakeL (i : Nat) (C : Addr) (sp : Sp) (dvs : List V) (E : XK) (t : TA) : TE := fun σ H Q => σ[i]? = some (some (.ref C)) ∧ tMake C sp dvs E t σ H Q
theorem pe_mkeL {x' : Str} (c : Mke X.prog X.w X.K X.mg X.base CX k x' sp) (hr : Room j X.A) (hk : k + 1 ≤ j) (hx : Passes CX X E) (hN : X.N[i]? = some x) (ha : PA X (e :: es) t)
    (hv : Vis X.env.scope x := by first | exact Or.inl rfl | exact Or.inr (Or.inl rfl) | exact Or.inr (Or.inr rfl)) (hdb : (x == ("__debug__" : Str)) = false := by decide) (hcd : (x == ("__classdict__" : Str)) = false := by decide)
    (he : starEach (e :: es) X.env = (false, eval e X.env) :: starEach es X.env := by rfl) (hpl : (backTo pos (starEach es X.env)).any (·.1) = false := by rfl) : PE X (.Call (.Name x p) (e :: es) [] pos) (tMakeL i (ga X.K x') sp [] E t) := by
  obtain ⟨f, fd, ps, F, M, hm, b⟩ := c
  refine ⟨fun pins s σ H Q I ⟨hs, h⟩ => ?_⟩
  refine wpAny_Call_Name_kw (thn ((pe_var (pos := p) hN hv hdb hcd).run pins s σ H (fun v H1 => v = .ref (ga X.K x') ∧ H1 = H) I ⟨_, hs, rfl, rfl⟩) fun u s1 ⟨v, H1, I1, r1, q1⟩ => ?_)
  obtain ⟨rfl, rfl⟩ := q1
  cases r1
  refine PySem.W.callWith_K (h₀ := X.base) I.ok.mod.kin M.kp (thn (ha.run pos pins s1 σ _ _ I1 h) fun us s2 ⟨vs, H2, I2, r, q⟩ => ⟨I2.kIn, ?_⟩) he hpl
  exact run_make M F (hr.mono hk) b .nil hx I2 r q
end
section
variable {σ : L2.St} {H : Hp} {Q : VK} {E : XK} {C : Addr} {sp : Sp} {ta to te : TE} {t : TA}
theorem go_cm (k : ta σ H fun x H1 => x = .ref C ∧ t σ H1 fun vs H2 => sp (.ref C :: vs) H2 Q E) : ClX.tCMeth C sp E ta t σ H Q := k
theorem go_cmx {x : V} {R : Prop} (e : x = .ref C) (k : R) : x = .ref C ∧ R := ⟨e, k⟩
theorem go_cmK {l : Nat} {gV : List V → List V → List V} (k : ta σ H fun x H1 => x = .ref C ∧ t σ H1 fun zs H2 => zs.length = l ∧ sp (gV [.ref C] zs) H2 Q E) : tCMethK C sp l gV E ta t σ H Q := k
theorem go_mkL {i : Nat} {dvs : List V} (e : σ[i]? = some (some (.ref C))) (k : tMake C sp dvs E t σ H Q) : tMakeL i C sp dvs E t σ H Q := ⟨e, k⟩
/-! ### methods of strings -/
def rM0 (r : V → List V → Hp → VK → Prop) (x : V) (H : Hp) (Q : VK) : Prop := (∃ a, x = .str a) ∧ r x [] H Q
theorem go_m0 {r : V → List V → Hp → VK → Prop} (k : to σ H fun x H1 => rM0 r x H1 Q) : L2.tM0 r to σ H Q := k
def rS0 (f : Str → V) : V → List V → Hp → VK → Prop := fun x xs H Q => ∃ a, x = .str a ∧ xs = [] ∧ True ∧ Q (f a) H
theorem go_s0 {f : Str → V} {a : Str} (k : Q (f a) H) : rM0 (rS0 f) (.str a) H Q := ⟨⟨a, rfl⟩, a, rfl, rfl, trivial, k⟩
def rM1 (r : V → List V → Hp → VK → Prop) (te : TE) (σ : L2.St) (x : V) (H : Hp) (Q : VK) : Prop := (∃ a, x = .str a) ∧ te σ H fun y H2 => r x [y] H2 Q
theorem go_m1 {r : V → List V → Hp → VK → Prop} (k : to σ H fun x H1 => rM1 r te σ x H1 Q) : L2.tM1 r to te σ H Q := k
def rM1' (r : V → List V → Hp → VK → Prop) (x y : V) (H : Hp) (Q : VK) : Prop := r x [y] H Q
theorem go_m1s {r : V → List V → Hp → VK → Prop} {a : Str} (k : te σ H fun y H2 => rM1' r (.str a) y H2 Q) : rM1 r te σ (.str a) H Q := ⟨⟨a, rfl⟩, k⟩
def rSplit : V → List V → Hp → VK → Prop := fun x xs H Q => ∃ a b, x = .str a ∧ xs = [.str b] ∧ (b.length == 0) = false ∧ a.length + 2 ≤ sizeLine ∧ L2.rNewStrs (Txt.split a b) H Q
theorem go_split {a b : Str} (hb : (b.length == 0) = false) (hl : a.length ≤ 9000000) (k : ∀ p H', H p = none → Same H H' → H' p = some (.lst ((Txt.split a b).map V.str)) → Q (.ref p) H') : rM1' rSplit (.str a) (.str b) H Q :=
  ⟨a, b, rfl, rfl, hb, Nat.le_trans (Nat.add_le_add_right hl 2) (by decide), fun p np => k p _ np (Same.new np) upd_same⟩
def rJoin (K : PySem.W.Frag) : V → List V → Hp → VK → Prop := fun x xs H Q => ∃ a p, ∃ ys : List Str, x = .str a ∧ xs = [.ref p] ∧ (SqL K H p (ys.map V.str) ∨ SqT K H p (ys.map V.str)) ∧
  (ys.map (·.length)).sum + ys.length * a.length ≤ 16777216 ∧ Q (.str (Txt.join a ys)) H
theorem go_join {K : PySem.W.Frag} {a : Str} {p : Addr} {ys : List Str} (h : SqL K H p (ys.map V.str)) (hl : (ys.map (·.length)).sum + ys.length * a.length ≤ 16777216) (k : Q (.str (Txt.join a ys)) H) : rM1' (rJoin K) (.str a) (.ref p) H Q :=
  ⟨a, p, ys, rfl, rfl, .inl h, hl, k⟩
def rLenS (xs : List V) (H : Hp) (Q : VK) : Prop := ∃ z : Str, xs = [.str z] ∧ z.length ≤ sizeLine ∧ Q (.int z.length) H
theorem go_lenS {z : Str} (hl : z.length ≤ 10000000) (k : Q (.int z.length) H) : rLenS [.str z] H Q := ⟨z, rfl, Nat.le_trans hl (by decide), k⟩
end
section
variable {X : Cx} {o e : Expr} {to te : TE} {apos pos : Pos}
theorem pe_isascii (ho : PE X o to) (hbase : attributeBase o "isascii" X.env (eval o X.env) = eval o X.env := by rfl) (hline : (apos.endLine == pos.line) = true := by rfl) : PE X (.Call (.Attribute o "isascii" apos) [] [] pos) (L2.tM0 (rS0 fun a => .bl (Txt.isascii a)) to) :=
  pe_m0 F.slot_str_isascii F.type_str_isascii mt_isascii ho hbase hline
theorem pe_isdigit (ho : PE X o to) (hbase : attributeBase o "isdigit" X.env (eval o X.env) = eval o X.env := by rfl) (hline : (apos.endLine == pos.line) = true := by rfl) : PE X (.Call (.Attribute o "isdigit" apos) [] [] pos) (L2.tM0 (rS0 fun a => .bl (Txt.isdigit a)) to) :=
  pe_m0 F.slot_str_isdigit F.type_str_isdigit mt_isdigit ho hbase hline
theorem pe_splitS (ho : PE X o to) (he : PE X e te) (hs : starEach [e] X.env = [(false, eval e X.env)] := by rfl) (hbase : attributeBase o "split" X.env (eval o X.env) = eval o X.env := by rfl) (hline : (apos.endLine == pos.line) = true := by rfl) :
    PE X (.Call (.Attribute o "split" apos) [e] [] pos) (L2.tM1 rSplit to te) := pe_split ho he hs hbase hline
theorem pe_joinS (ho : PE X o to) (he : PE X e te) (hs : starEach [e] X.env = [(false, eval e X.env)] := by rfl) (hbase : attributeBase o "join" X.env (eval o X.env) = eval o X.env := by rfl) (hline : (apos.endLine == pos.line) = true := by rfl) :
    PE X (.Call (.Attribute o "join" apos) [e] [] pos) (L2.tM1 (rJoin X.K) to te) := pe_join ho he hs hbase hline
end
/-! ### walks over texts and counted lists -/
section
variable {σ : L2.St} {H : Hp} {Q : VK} {K : PySem.W.Frag} {D : Ends} {g : TG} {tb : TS}
def rStrI (x : V) (H : Hp) (R : It → Hp → Prop) : Prop := ∃ z : Str, x = .str z ∧ R (Its z) H
theorem go_strI {tl : TE} {R : It → Hp → Prop} (k : tl σ H fun x H1 => rStrI x H1 R) : iStr tl σ H R := k
theorem go_strIx {z : Str} {R : It → Hp → Prop} (k : R (Its z) H) : rStrI (.str z) H R := ⟨z, rfl, k⟩
def rEnumI (K : PySem.W.Frag) (vs : List V) (H : Hp) (R : It → Hp → Prop) : Prop := ∃ a xs, vs = [.ref a] ∧ SqL K H a xs ∧ R (Ite K a) H
theorem go_enumI {ta : TA} {R : It → Hp → Prop} (k : ta σ H fun vs H1 => rEnumI K vs H1 R) : iEnum K ta σ H R := k
theorem go_enumIx {a : Addr} {xs : List V} {R : It → Hp → Prop} (h : SqL K H a xs) (k : R (Ite K a) H) : rEnumI K [.ref a] H R := ⟨a, xs, rfl, h, k⟩
theorem forEnum {a : Addr} {xs : List V} (Pv : Nat → St → Hp → Prop) (h0 : Pv 0 σ H) (hl : ∀ i σ H, i ≤ xs.length → Pv i σ H → SqL K H a xs)
    (hs : ∀ i x σ H T, xs[i]? = some x → Pv i σ H → H T = none → g (.ref T) σ (upd H T (.tup [.int (i : Nat), x])) fun σ2 H2 => tb { D with nx := Pv (i + 1), ct := Pv (i + 1), bk := D.nx } σ2 H2) (hd : ∀ σ H, Pv xs.length σ H → D.nx σ H) : rFor (Ite K a) g tb D σ H := by
  refine for_it walk_enum Pv h0 hl (fun i v σ H H' hi p y => ?_) hd
  obtain ⟨T, x, y', h1, h2, h3, h4, h5⟩ := y
  subst h1 h3
  cases h4
  exact hs i y' σ H T h5 p h2
/-- some signs of a text are kept -/
theorem lcStrIf {j : Nat} {z : Str} {vs : List Nat} {tt : TT} {te : TE} (c : Nat → Bool) (hn : z.length ≤ 100000) (hw : ∀ v, wipe ((wipe σ vs).set j (some v)) vs = wipe σ vs)
    (ht : ∀ (x : Nat) (H' : Hp) (Q' : Bool → Hp → Prop), x ∈ TL.tl z → Same H H' → (∀ H'', Same H' H'' → Q' (c x) H'') → tt ((wipe σ vs).set j (some (.str ⟨#[x]⟩))) H' Q')
    (hs : ∀ (x : Nat) (H' : Hp) (Q' : VK), x ∈ TL.tl z → c x = true → Same H H' → (∀ H'', Same H' H'' → Q' (.str ⟨#[x]⟩) H'') → te ((wipe σ vs).set j (some (.str ⟨#[x]⟩))) H' Q')
    (k : ∀ D H', H D = none → Same H H' → H' D = some (.lst (((TL.tl z).filter c).map fun x => V.str ⟨#[x]⟩)) → Q (.ref D) H') : rLc (Its z) (gName j) tt te vs σ H Q := by
  intro D nD
  have sz : z.cps.size = (TL.tl z).length := by simp [TL.tl]
  refine lc_it walk_str (fun i H' => Same H H' ∧ H' D = some (.lst ((((TL.tl z).take i).filter c).map fun x => V.str ⟨#[x]⟩))) ⟨Same.new nD, upd_same⟩ (fun _ _ _ _ => trivial) ?_ fun H' ⟨s, d⟩ => k D H' nD s (by rw [sz, List.take_length] at d; exact d)
  rintro i v H1 H' hi ⟨s, d⟩ ⟨rfl, x, hx, rfl⟩
  refine ⟨hw _, ?_⟩
  have hx' : (TL.tl z)[i]? = some x := by unfold TL.tl; rw [Array.getElem?_toList]; exact hx
  have hm := List.mem_of_getElem? hx'
  have step : ((TL.tl z).take (i + 1)).filter c = ((TL.tl z).take i).filter c ++ (if c x = true then [x] else []) := by
    rw [List.take_add_one, hx', List.filter_append]
    cases e : c x <;> simp [e]
  refine ht x H' _ hm s fun H1 s1 => ?_
  refine go_b (fun e => ?_) fun e => ?_
  · refine hs x H1 _ hm e (s.trans s1) fun H'' s2 => ?_
    refine ⟨_, s2 _ _ (s1 _ _ d), ?_, ?_, ?_⟩
    · rw [List.length_map]
      refine Nat.lt_of_le_of_lt (List.length_filter_le _ _) ?_
      have hz : z.length = z.cps.size := rfl
      rw [List.length_take]
      exact Nat.lt_of_lt_of_le (show min i _ < z.length by omega) (Nat.le_trans hn (by decide))
    · exact fun b o h => (upd_ne (ne_of_none h nD)).trans (s2 _ _ (s1 _ _ (s _ _ h)))
    · rw [step, if_pos e, List.map_append]
      exact upd_same
  · refine ⟨s.trans s1, ?_⟩
    rw [step, if_neg (by rw [e]; decide), List.append_nil]
    exact s1 _ _ d
end
/-! ### words that are figures -/
section
open TL NumText
theorem ascii_digit : ∀ c : Nat, c < 128 → Unicode.isDigit c = decide (48 ≤ c ∧ c ≤ 57) := by decide +kernel
theorem figs_iff (w : Str) : (Txt.isascii w && Txt.isdigit w) = true ↔ tl w ≠ [] ∧ AllDigits (tl w) := by
  unfold Txt.isascii Txt.isdigit
  rw [Bool.and_eq_true, Bool.and_eq_true, ← Array.all_toList, ← Array.all_toList, List.all_eq_true, List.all_eq_true, decide_eq_true_iff, len_tl]
  constructor
  · rintro ⟨h1, h2, h3⟩
    refine ⟨fun z => ?_, fun c hc => ?_⟩
    · rw [z] at h2
      exact absurd h2 (by decide)
    · have a := of_decide_eq_true (h1 c hc)
      have b := h3 c hc
      rw [ascii_digit c a] at b
      exact of_decide_eq_true b
  · rintro ⟨h1, h2⟩
    refine ⟨fun c hc => ?_, List.length_pos_iff.mpr h1, fun c hc => ?_⟩
    · have := h2 c hc
      exact decide_eq_true (by omega)
    · have := h2 c hc
      rw [ascii_digit c (by omega)]
      exact decide_eq_true this
theorem map_back : ∀ l : List Nat, AllDigits l → (l.map Char.ofNat).map Char.toNat = l
  | [], _ => rfl
  | c :: l, h => by
    have e : ∀ c : Nat, c < 58 → (Char.ofNat c).toNat = c := by decide
    rw [List.map_cons, List.map_cons, map_back l h.tail, e c (by have := h.head; omega)]
/-- a number without a nought ahead is what str writes -/
theorem num_back {l : List Nat} (h : AllDigits l) (hne : l ≠ []) (h0 : l = [48] ∨ l.head? ≠ some 48) : numL (digitsVal l) = l := by
  unfold numL
  obtain ⟨c, r, rfl⟩ := List.exists_cons_of_ne_nil hne
  rw [toDigits_digitsVal r.length (c :: r) rfl h ?_, map_back _ h]
  rcases h0 with h0 | h0
  · cases h0
    exact .inl rfl
  · refine .inr ⟨c, r, rfl, ?_⟩
    have := h.head
    have n : c ≠ 48 := fun z => h0 (by rw [z]; rfl)
    omega
theorem text_back {w : Str} (h : AllDigits (tl w)) (hne : tl w ≠ []) (h0 : tl w = [48] ∨ (tl w).head? ≠ some 48) : Str.ofString (toString ((digitsVal (tl w) : Nat) : Int)) = w :=
  ext_tl (by rw [tl_num, num_back h hne h0])
theorem val_ge : ∀ (l : List Nat) (a : Nat), a * 10 ^ l.length ≤ l.foldl (fun acc c => acc * 10 + (c - 48)) a
  | [], a => by simp
  | c :: l, a => by
    have := val_ge l (a * 10 + (c - 48))
    rw [List.length_cons, Nat.pow_succ, Nat.mul_comm (10 ^ l.length) 10, ← Nat.mul_assoc]
    exact Nat.le_trans (Nat.mul_le_mul_right _ (Nat.le_add_right _ _)) this
/-- a number of n figures without a nought ahead is at least 10 to n - 1 -/
theorem val_long {c : Nat} {l : List Nat} (h : 49 ≤ c) : 10 ^ l.length ≤ digitsVal (c :: l) := by
  have := val_ge l (c - 48)
  have e : digitsVal (c :: l) = l.foldl (fun acc c => acc * 10 + (c - 48)) (c - 48) := by
    show List.foldl _ _ _ = _
    rw [List.foldl_cons, Nat.zero_mul, Nat.zero_add]
  rw [e]
  exact Nat.le_trans (Nat.le_mul_of_pos_left _ (by omega)) this
end
/-- a text, n times -/
def repS (a : Str) (n : Nat) : Str := ⟨(List.replicate n a.cps).foldl (· ++ ·) #[]⟩
theorem fold_size : ∀ (n : Nat) (a acc : Array Nat), ((List.replicate n a).foldl (· ++ ·) acc).size = acc.size + n * a.size
  | 0, _, _ => by simp
  | n + 1, a, acc => by
    rw [List.replicate_succ, List.foldl_cons, fold_size n a, Array.size_append, Nat.succ_mul]
    omega
theorem repS_len (a : Str) (n : Nat) : (repS a n).length = n * a.length := by
  show ((List.replicate n a.cps).foldl (· ++ ·) #[]).size = _
  rw [fold_size]
  show 0 + _ = _
  rw [Nat.zero_add]
  rfl
def rRepS : V → V → Hp → VK → Prop := fun x y H Q => ∃ (a : Str) (n : Nat), x = .str a ∧ y = .int (n : Nat) ∧ (2 ≤ n ∧ n ≤ 5000) ∧ (0 < a.length ∧ a.length ≤ 1000) ∧ Q (.str (repS a n)) H
theorem op_repS {X : Cx} : OpR X (binaryOp .Mult) rRepS := by
  intro pins s σ H x y v u Q I rx ry h
  obtain ⟨a, n, rfl, rfl, ⟨n2, n5⟩, ⟨a0, a1⟩, q⟩ := h
  obtain ⟨t, rfl⟩ := rx
  obtain ⟨t', rfl⟩ := ry
  have hm : a.length * n ≤ 1000 * 5000 := Nat.mul_le_mul a1 n5
  have e1 : ((n : Int) == 1 || a.length == 0) = false := by
    have h1 : ((n : Int) == 1) = false := by rw [beq_eq_false_iff_ne]; omega
    have h2 : (a.length == 0) = false := by rw [beq_eq_false_iff_ne]; omega
    rw [h1, h2]
    rfl
  refine P.mul_str ?_ ?_ ?_ ?_
  · rw [decide_eq_false (by omega), decide_eq_false (by omega)]
    rfl
  · intro _ _ hc
    have : (a.length : Int) ≤ ((2 : Int) ^ 63 - 1) / (n : Int) := by
      refine (Int.le_ediv_iff_mul_le (by omega)).mpr ?_
      have hm' : (a.length : Int) * (n : Int) ≤ 1000 * 5000 := by exact_mod_cast hm
      exact Int.le_trans hm' (by decide)
    omega
  · intro _ _
    have z : ((n : Int)).toNat = n := rfl
    rw [z]
    exact decide_eq_false (Nat.not_lt.mpr (Nat.le_trans hm (by decide)))
  · rw [if_neg (by omega), if_neg (by rw [e1]; decide)]
    refine ⟨?_, .str (repS a n), H, I.tok _, ⟨_, rfl⟩, q⟩
    show (repS a n).length ≤ _
    rw [repS_len, Nat.mul_comm]
    exact Nat.le_trans hm (by decide)
theorem go_repS {H : Hp} {Q : VK} {a : Str} {i : Int} (h0 : 2 ≤ i ∧ i ≤ 5000) (h2 : 0 < a.length ∧ a.length ≤ 1000) (k : Q (.str (repS a i.toNat)) H) : rRepS (.str a) (.int i) H Q :=
  ⟨a, i.toNat, rfl, congrArg V.int (by omega), ⟨by omega, by omega⟩, h2, k⟩
end CT
namespace CT
open PySem PySem.Spec PyProof.Rows L2
open He (ga ma fAd)
open AutoSeq1 (wpAny_loadPart')
open MeetsSeq

/-! ### a dict is no text, no number, no tuple -/
theorem dq_dict_str (a : Addr) (b : Str) (u : Tok) (o : Obj) (es : Array DictEntry) (ep : Nat) (_ : o.data = .dict es ep) :
    Meets (Builtin.«dict.__eq__» ⟨[.ref a, .str b u], []⟩) (fun _ R s => s.heap.get? a = some o ∧ R (.ok (.ret .notImplemented)) s) :=
  .of_wp fun prog w A R s h => by obtain ⟨hp, g, d, tk, os⟩ := s; obtain ⟨ha, h⟩ := h; wp_walk using wpAny_loadPart' ha, wpAny_load ha; refine wpAny_of_eq (M := model prog w) (A := A.in1) F.sub_str_dict ?_; wp_walk; exact ⟨_, rfl, h⟩
theorem dq_dict_int (a : Addr) (b : Int) (u : Tok) (o : Obj) (es : Array DictEntry) (ep : Nat) (_ : o.data = .dict es ep) :
    Meets (Builtin.«dict.__eq__» ⟨[.ref a, .int b u], []⟩) (fun _ R s => s.heap.get? a = some o ∧ R (.ok (.ret .notImplemented)) s) :=
  .of_wp fun prog w A R s h => by obtain ⟨hp, g, d, tk, os⟩ := s; obtain ⟨ha, h⟩ := h; wp_walk using wpAny_loadPart' ha, wpAny_load ha; refine wpAny_of_eq (M := model prog w) (A := A.in1) F.sub_int_dict ?_; wp_walk; exact ⟨_, rfl, h⟩
theorem dq_str_dict (a : Addr) (b : Str) (u : Tok) (es : Array DictEntry) (ep : Nat) (dd : Option Addr) (sl : Array (Option Value)) :
    Meets (Builtin.«str.__eq__» ⟨[.str b u, .ref a], []⟩) (fun _ R s => s.heap.get? a = some ⟨.type "dict", dd, .dict es ep, sl⟩ ∧ R (.ok (.ret .notImplemented)) s) :=
  .of_wp fun prog w A R s h => by obtain ⟨hp, g, d, tk, os⟩ := s; obtain ⟨ha, h⟩ := h; wp_walk using wpAny_loadPart' ha, wpAny_load ha; exact ⟨_, rfl, h⟩
theorem dq_int_dict (a : Addr) (b : Int) (u : Tok) (es : Array DictEntry) (ep : Nat) (dd : Option Addr) (sl : Array (Option Value)) :
    Meets (Builtin.«int.__eq__» ⟨[.int b u, .ref a], []⟩) (fun _ R s => s.heap.get? a = some ⟨.type "dict", dd, .dict es ep, sl⟩ ∧ R (.ok (.ret .notImplemented)) s) :=
  .of_wp fun prog w A R s h => by obtain ⟨hp, g, d, tk, os⟩ := s; obtain ⟨ha, h⟩ := h; wp_walk using wpAny_loadPart' ha, wpAny_load ha; exact ⟨_, rfl, h⟩
theorem dq_tup_dict (t a : Addr) (es : Array DictEntry) (ep : Nat) (dd : Option Addr) (sl : Array (Option Value)) :
    Meets (Builtin.«tuple.__eq__» ⟨[.ref t, .ref a], []⟩) (fun _ R s => s.heap.get? a = some ⟨.type "dict", dd, .dict es ep, sl⟩ ∧ R (.ok (.ret .notImplemented)) s) :=
  .of_wp fun prog w A R s h => by obtain ⟨hp, g, d, tk, os⟩ := s; obtain ⟨ha, h⟩ := h; wp_walk using wpAny_loadPart' ha, wpAny_load ha; refine wpAny_of_eq (M := model prog w) (A := A.in1) F.sub_dict_tuple ?_; wp_walk; exact ⟨_, rfl, h⟩
theorem dq_dict_tup (a t : Addr) (o : Obj) (es : Array DictEntry) (ep : Nat) (_ : o.data = .dict es ep) (dd : Option Addr) (dt : Data) (sl : Array (Option Value)) :
    Meets (Builtin.«dict.__eq__» ⟨[.ref a, .ref t], []⟩) (fun _ R s => s.heap.get? a = some o ∧ s.heap.get? t = some ⟨.type "tuple", dd, dt, sl⟩ ∧ R (.ok (.ret .notImplemented)) s) :=
  .of_wp fun prog w A R s h => by
    obtain ⟨hp, g, d, tk, os⟩ := s; obtain ⟨ha, ht, h⟩ := h
    wp_walk using wpAny_loadPart' ha, wpAny_load ha, wpAny_loadPart' ht, wpAny_load ht
    refine wpAny_of_eq (M := model prog w) (A := A.in1) F.sub_tuple_dict ?_; wp_walk; exact ⟨_, rfl, h⟩
/-- a dict against a text, a number or a tuple -/
def rNoDict : R2 := fun x y H Q => (∃ a kvs, x = .ref a ∧ H a = some (.dK kvs)) ∧ ((∃ z, y = .str z) ∨ (∃ i, y = .int i) ∨ ∃ t xs, y = .ref t ∧ H t = some (.tup xs)) ∧ Q (.bl false) H
section
variable {X : Cx}
theorem op_noDict (hu : X.A.units < cLine) : OpR X (compareOp .Eq) rNoDict := by
  intro pins s σ H x y v u Q I rx ry h
  obtain ⟨⟨a, kvs, rfl, ha⟩, hy, q⟩ := h
  cases (show v = Value.ref a from rx)
  obtain ⟨_, _, vs, _, ⟨oc, dd, da, sl⟩, es, ep, ho, hx, hd, _⟩ := (show ObjOk X.prog X.w H s.heap a (.dK kvs) from I.hok a _ ha)
  obtain rfl : oc = Value.type "dict" := hx.1
  cases (show da = .dict es ep from hd)
  have q' : EP X pins σ Q (.bool false) s := ⟨.bl false, H, I, rfl, q⟩
  have ta : s.TypeIs (.ref a) "dict" := ⟨_, ho, rfl⟩
  show wpAny (model X.prog X.w) X.A (richCompare .Eq (.ref a) u) _ _ s
  rcases hy with ⟨z, rfl⟩ | ⟨i, rfl⟩ | ⟨t, xs, rfl, ht⟩
  · obtain ⟨k, rfl⟩ := (show ∃ k, u = Value.str z k from ry)
    exact SeqAt.rc_eq_decline_or (k := false) ta (typeIs_str s z k) (by decide) F.sub_str_dict F.slot_dict_eq F.slot_str_eq_refl
      (fun _ w => call_meets F.slot_dict_eq ta F.entry_dict_eq (F.args_dict_eq_2 _ _) (dq_dict_str a z k _ es ep rfl) ⟨ho, w⟩)
      (fun _ w => call_meets F.slot_str_eq_refl (typeIs_str s z k) F.entry_str_eq (F.args_str_eq_2 _ _) (dq_str_dict a z k es ep dd sl) ⟨ho, w⟩)
      (fun _ w => wpAny_of_eq (rfl : isSame (.ref a) (.str z k) = pure false) w) (.inr hu) q'
  · obtain ⟨k, rfl⟩ := (show ∃ k, u = Value.int i k from ry)
    exact SeqAt.rc_eq_decline_or (k := false) ta (typeIs_int s i k) (by decide) F.sub_int_dict F.slot_dict_eq F.slot_int_eq_refl
      (fun _ w => call_meets F.slot_dict_eq ta F.entry_dict_eq (F.args_dict_eq_2 _ _) (dq_dict_int a i k _ es ep rfl) ⟨ho, w⟩)
      (fun _ w => call_meets F.slot_int_eq_refl (typeIs_int s i k) F.entry_int_eq (F.args_int_eq_2 _ _) (dq_int_dict a i k es ep dd sl) ⟨ho, w⟩)
      (fun _ w => wpAny_of_eq (rfl : isSame (.ref a) (.int i k) = pure false) w) (.inr hu) q'
  · cases (show u = Value.ref t from ry)
    obtain ⟨its, _, tup, _⟩ := I.tuple (.of (K := X.K) ht)
    have tt := tup.typeIs
    obtain ⟨⟨tc, td, tda, tsl⟩, hto, htc, n, htd⟩ := tup
    obtain rfl : tc = Value.type "tuple" := htc
    have ne : (a == t) = false := by
      rw [beq_eq_false_iff_ne]
      rintro rfl
      have z : Value.type "tuple" = Value.type "dict" := congrArg Obj.cls (Option.some.inj (hto.symm.trans ho))
      exact absurd (Value.type.inj z) (by decide)
    exact SeqAt.rc_eq_decline_or (k := false) ta tt (by decide) F.sub_tuple_dict F.slot_dict_eq F.slot_tuple_eq_refl
      (fun _ w => call_meets F.slot_dict_eq ta F.entry_dict_eq (F.args_dict_eq_2 _ _) (dq_dict_tup a t _ es ep rfl td tda tsl) ⟨ho, hto, w⟩)
      (fun _ w => call_meets F.slot_tuple_eq_refl tt F.entry_tuple_eq (F.args_tuple_eq_2 _ _) (dq_tup_dict t a es ep dd sl) ⟨ho, w⟩)
      (fun _ w => by
        simp [isSame, ne]
        exact wpAny_bind (wpAny_load ho (wpAny_bind (wpAny_load hto (wpAny_pure w))))) (.inr hu) q'
end
end CT
--@@needs A10
namespace CT
open PySem PySem.Spec PyProof.Rows L2
open He (ga ma fAd)
open AutoSeq1 (wpAny_loadPart')
open MeetsSeq

/-! ### x in a list, where the items' comparisons run code of the program -/
/-- the walk through the items: P i before the i-th -/
theorem walk_in {prog : Program} {w : World} {A : Around} {R : Result → Shared → Prop} {l : Addr} {x : Value} {N : Nat} (P : Nat → Shared → Prop)
    (step : ∀ i s, P i s → ∃ (items : Array Value) (n : Nat), s.heap.get? l = some { cls := .type "list", data := .seq items n } ∧ items.size = N ∧
      ∀ (lt : i < items.size) (k : Bool → Shared → Prop), (∀ s', P (i + 1) s' → k false s') → (∀ s', R (.ok (.ret (.bool true))) s' → k true s') →
        wpAny (model prog w) A.in1 (eqBool items[i] x) k (fun e s' => R (.error e) s') s)
    (done : ∀ s, P N s → R (.ok (.ret (.bool false))) s) :
    ∀ left i : Nat, N - i = left → i ≤ N → ∀ s, P i s → wpAny (model prog w) A.in1 (Builtin.«list.__contains__.loop» ⟨[.ref l, x, rawInt i], []⟩)
      (fun fin s' => match fin with | .done f => R (.ok f) s' | .again c' => c'.quiet = true ∧ codeAny (model prog w) A c' R s') (fun e s' => R (.error e) s') s := by
  intro left
  induction left with
  | zero =>
    intro i e le s p
    obtain ⟨items, n, at_, sz, _⟩ := step i s p
    obtain rfl : i = N := by omega
    have fin := done s p
    obtain ⟨hp, g, d, tk, os⟩ := s
    wp_walk using wpAny_loadPart' at_
    rw [show items[((i : Nat) : Int).toNat]? = none from by simp [sz]]
    wp_walk
    exact fin
  | succ left ih =>
    intro i e le s p
    obtain ⟨items, n, at_, sz, st⟩ := step i s p
    have lt : i < items.size := by omega
    have st := st lt
    obtain ⟨hp, g, d, tk, os⟩ := s
    wp_walk using wpAny_loadPart' at_
    rw [show items[((i : Nat) : Int).toNat]? = some items[i] from by simp [lt]]
    refine wpAny_bind (st _ (fun s' p' => ?_) fun s' r => ?_)
    · obtain ⟨hp, g, d, tk, os⟩ := s'
      wp_walk
      rw [show ((i : Int) + 1) = ((i + 1 : Nat) : Int) from by push_cast; rfl]
      exact ⟨plainId_quiet plain_contains_loop _, codeAny_builtin entry_contains_loop (by
        rw [Around.under_plainId plain_contains_loop _]
        exact ih (i + 1) (by omega) (by omega) _ p')⟩
    · obtain ⟨hp, g, d, tk, os⟩ := s'
      wp_walk
      exact r
/-- what x in [y, ..] asks, x an instance of C, the items of built-in kinds, one after the other; p: the list, xs: all of it -/
def chIn (K : PySem.W.Frag) (C : Addr) (sp : Sp) (E : XK) (p : Addr) (xs : List V) (x : V) : List V → (Bool → Hp → Prop) → Hp → Prop
  | [], Q, H => H p = some (.lst xs) ∧ Q false H
  | y :: ys, Q, H => H p = some (.lst xs) ∧ ∃ a dx fs n, x = .ref a ∧ H a = some (.ins C dx fs) ∧ OddV H y n ∧ PySem.W.mroIn K C (.type n) = some false ∧
      sp [x, y] H (fun v H' => ∃ b, v = .bl b ∧ if b = true then Q true H' else chIn K C sp E p xs x ys Q H') E
theorem chIn.at_ {K : PySem.W.Frag} {C : Addr} {sp : Sp} {E : XK} {p : Addr} {xs : List V} {x : V} {ys : List V} {Q : Bool → Hp → Prop} {H : Hp} (h : chIn K C sp E p xs x ys Q H) : H p = some (.lst xs) := by
  cases ys <;> exact h.1
def rNotInO (K : PySem.W.Frag) (C : Addr) (sp : Sp) (E : XK) : R2 := fun x y H Q => ∃ p xs, y = .ref p ∧ chIn K C sp E p xs x xs (fun b H' => Q (.bl (!b)) H') H
section
variable {X : Cx} {CX : CXT} {j k : Nat} {C : Addr} {sp : Sp} {E : XK}
theorem op_notInO (c : Op X.prog X.w X.K X.mg X.base CX k C "__eq__" sp) (hr : Room j X.A) (hk : k + 1 ≤ j) (hx : Passes CX X E) : OpR X (compareOp .NotIn) (rNotInO X.K C sp E) := by
  obtain ⟨f, fd, ps, Fn, h1, h2, b⟩ := c
  have hr1 := (hr.mono hk).in1
  intro pins s σ H x y v u Q I rx ry h
  obtain ⟨p, xs, rfl, ch⟩ := h
  cases (show u = Value.ref p from ry)
  obtain ⟨_, its0, n0, rv0, at0⟩ := (show ObjOk X.prog X.w H s.heap p (.lst xs) from I.hok p _ ch.at_)
  -- the comparison with one item
  have one : ∀ {s : Shared} {H : Hp} {ys : List V} {y : V} {t : Value} {Qb : Bool → Hp → Prop} {k : Bool → Shared → Prop}, Inv X pins σ H s → RelV y t → chIn X.K C sp E p xs x (y :: ys) Qb H →
      (∀ s' H', Inv X pins σ H' s' → chIn X.K C sp E p xs x ys Qb H' → k false s') → (∀ s' H', Inv X pins σ H' s' → Qb true H' → k true s') →
      wpAny (model X.prog X.w) X.A.in1 (eqBool t v) k X.xe s := by
    intro s H ys y t Qb k I ry ch no yes
    obtain ⟨_, a, dx, fs, n, rfl, ha, odd, nm, q⟩ := ch
    cases (show v = Value.ref a from rx)
    obtain ⟨mA, J, _⟩ := ins_get I.hok ha
    have ni := noInst I ha nm
    have hobj := J.obj
    obtain ⟨od', J', _⟩ := J.look
    obtain ⟨m, hF⟩ := I.fr
    have ne : (t == Value.ref a) = false := by
      rw [beq_eq_false_iff_ne]
      rintro rfl
      cases odd with
      | non => cases (show Value.ref a = Value.none from ry)
      | int i => obtain ⟨_, z⟩ := ry; cases z
      | bl i => cases (show Value.ref a = Value.bool i from ry)
      | str i => obtain ⟨_, z⟩ := ry; cases z
      | lst e => cases (show Value.ref a = Value.ref _ from ry); rw [e] at ha; cases ha
      | tup e => cases (show Value.ref a = Value.ref _ from ry); rw [e] at ha; cases ha
      | dK e => cases (show Value.ref a = Value.ref _ from ry); rw [e] at ha; cases ha
    have comp : wpAny (model X.prog X.w) X.A.in1 (richCompare .Eq t (.ref a)) (fun r s' => ∃ b, r = .bool b ∧ k b s') X.xe s := by
      refine cmp_R (op := .Eq) hr1.units0 hF I.ok.mod.kin J' (decl_eq I odd ry hobj ni) nm h1 h2 ?_
      refine wpAny_mono (run_at (us := [.ref a, t]) (vs := [.ref a, y]) Fn b hr1 I.env0.in1 hx I (.cons rfl (.cons ry .nil)) q) (fun w s' z => ?_) fun _ _ x => x
      obtain ⟨z', H', I', rz, bb, rfl, qz⟩ := z
      cases (show w = Value.bool bb from rz)
      refine ⟨bb, rfl, ?_⟩
      cases bb
      · exact no s' H' I' (by simpa using qz)
      · exact yes s' H' I' (by simpa using qz)
    unfold eqBool
    refine wpAny_holding ?_
    simp only [ne, Bool.false_eq_true, if_false]
    have tail : wpAny (model X.prog X.w) X.A.in1 (do truthOfDropped (← richCompare .Eq t (.ref a))) k X.xe s :=
      wpAny_bind (wpAny_mono comp (fun r s' z => by
        obtain ⟨b, rfl, q⟩ := z
        exact wpAny_truthy_bool q) fun _ _ q => q)
    cases t <;> exact tail
  -- the walk
  have tl : s.TypeIs (.ref p) "list" := ⟨_, at0, rfl⟩
  let G : Value → Shared → Prop := fun r s' => ∃ b, r = .bool b ∧ EP X pins σ Q (.bool (!b)) s'
  let P : Nat → Shared → Prop := fun i s => ∃ H, Inv X pins σ H s ∧ chIn X.K C sp E p xs x (xs.drop i) (fun b H' => Q (.bl (!b)) H') H
  have back : ∀ (b : Bool) s' H', Inv X pins σ H' s' → Q (.bl (!b)) H' → G (.bool b) s' := fun b s' H' I' q => ⟨b, rfl, .bl (!b), H', I', rfl, q⟩
  have walk := walk_in (prog := X.prog) (w := X.w) (A := X.A) (R := wants G X.xe) (l := p) (x := v) (N := xs.length) P (fun i s h => by
      obtain ⟨H, I, ch⟩ := h
      obtain ⟨_, its, n, rv, at_⟩ := (show ObjOk X.prog X.w H s.heap p (.lst xs) from I.hok p _ ch.at_)
      refine ⟨its.toArray, n, at_, by rw [List.size_toArray, ← rv.length], fun lt k no yes => ?_⟩
      have lt' : i < xs.length := by rw [rv.length]; simpa using lt
      have dr := List.drop_eq_getElem_cons lt'
      rw [dr] at ch
      obtain ⟨t, et, ri⟩ := rv.get (List.getElem?_eq_getElem lt')
      have ei : its.toArray[i] = t := by
        have z : its.toArray[i]? = some t := by simpa using et
        exact (Array.getElem?_eq_some_iff.mp z).2
      exact one I (ei.symm ▸ ri) ch (fun s' H' I' c => no s' ⟨H', I', c⟩) fun s' H' I' q => yes s' (back true s' H' I' q))
    (fun s h => by
      obtain ⟨H, I, ch⟩ := h
      rw [List.drop_length] at ch
      exact back false s H I ch.2)
  show wpAny _ X.A (do return Value.bool (!(← contains (.ref p) v))) _ _ s
  refine wpAny_bind (wpAny_contains_slot tl F.slot_list_contains (wpAny_mono (call_meetsIn (B := Builtin.«list.__contains__») (Q := G) F.slot_list_contains tl F.entry_list_contains (F.args_list_contains_2 _ _)
    (S := fun A R s => wpAny (model X.prog X.w) A.in1 (Builtin.«list.__contains__» ⟨[.ref p, v], []⟩)
      (fun fin s' => match fin with | .done f => R (.ok f) s' | .again c' => c'.quiet = true ∧ codeAny (model X.prog X.w) A c' R s') (fun e s' => R (.error e) s') s) (fun _ _ _ h => h) ?_) (fun r s' hr => ?_) fun _ _ e => e))
  · have p0 : P 0 s := ⟨H, I, ch⟩
    have start := walk xs.length 0 (by omega) (Nat.zero_le _)
    obtain ⟨hp, g, d, tk, os⟩ := s
    wp_walk using wpAny_loadPart' at0
    exact ⟨plainId_quiet plain_contains_loop _, codeAny_builtin entry_contains_loop (by
      rw [Around.under_plainId plain_contains_loop _]
      exact start _ p0)⟩
  · obtain ⟨b, rfl, q⟩ := hr
    exact wpAny_truthy_bool (wpAny_pure q)
end
end CT
--@@needed
namespace CT
open PySem PySem.Spec PyProof.Rows L2
open He (ga ma fAd)

/-! ### data with dicts: flat items in lists, tuples and dicts -/
inductive Fl : V → PyData → Prop
  | non : Fl .non .none
  | bl (b : Bool) : Fl (.bl b) (.bool b)
  | int (i : Int) : Fl (.int i) (.int i)
  | str (z : Str) : Fl (.str z) (.str z)
theorem Fl.reads {h : Heap} {v : V} {d : PyData} {u : Value} (f : Fl v d) (r : RelV v u) : Reads h u d [] := by
  cases f with
  | non => cases (show u = Value.none from r); exact .none
  | bl b => cases (show u = Value.bool b from r); exact .bool b
  | int i => obtain ⟨t, rfl⟩ := (show ∃ t, u = Value.int i t from r); exact .int i t
  | str z => obtain ⟨t, rfl⟩ := (show ∃ t, u = Value.str z t from r); exact .str z t
theorem flats {h : Heap} {xs : List V} {ds : List PyData} (p : Paired Fl xs ds) : ∀ {us : List Value}, Vals xs us → ReadsAll h us ds [] := by
  induction p with
  | nil =>
    intro us r
    cases r
    exact .nil
  | cons f _ ih =>
    intro us r
    cases r with
    | cons r1 r2 => exact ReadsAll.cons (as := []) (bs := []) (f.reads r1) (ih r2)
def kD : Key → PyData
  | .inl i => .int i
  | .inr z => .str z
theorem kD_reads {h : Heap} {k : Key} {v : Value} (e : keyIs k v = true) : Reads h v (kD k) [] := by
  rcases keyIs_shape e with ⟨i, t, rfl, rfl⟩ | ⟨z, t, rfl, rfl⟩
  · exact .int i t
  · exact .str z t
inductive Dq (H : Hp) : V → PyData → Prop
  | flat {v : V} {d : PyData} (f : Fl v d) : Dq H v d
  | lst {a : Addr} {xs : List V} {ds : List PyData} (e : H a = some (.lst xs)) (p : Paired Fl xs ds) : Dq H (.ref a) (.list ds)
  | tup {a : Addr} {xs : List V} {ds : List PyData} (e : H a = some (.tup xs)) (p : Paired Fl xs ds) : Dq H (.ref a) (.tuple ds)
  | dic {a : Addr} {kvs : List (Key × V)} {ds : List (PyData × PyData)} (e : H a = some (.dK kvs))
      (p : Paired (fun (k : Key × V) (q : PyData × PyData) => q.1 = kD k.1 ∧ Fl k.2 q.2) kvs ds) : Dq H (.ref a) (.dict ds)
theorem Dq.same {H H' : Hp} {v : V} {d : PyData} (q : Dq H v d) (s : Same H H') : Dq H' v d := by
  cases q with
  | flat f => exact .flat f
  | lst e p => exact .lst (s _ _ e) p
  | tup e p => exact .tup (s _ _ e) p
  | dic e p => exact .dic (s _ _ e) p
theorem pairs_keys {P : Program} {w : World} {h : Heap} {es : List DictEntry} {vs : List (Key × Value)} (p : PySem.Pairs (mixKind P w) es vs) :
    ∀ {kvs : List (Key × V)} {ds : List (PyData × PyData)}, KV kvs vs → Paired (fun (k : Key × V) (q : PyData × PyData) => q.1 = kD k.1 ∧ Fl k.2 q.2) kvs ds →
      ReadsAll h (es.map (·.key)) (ds.map (·.1)) [] ∧ ReadsAll h (es.map (·.val)) (ds.map (·.2)) [] := by
  induction p with
  | nil =>
    intro kvs ds r q
    cases r
    cases q
    exact ⟨.nil, .nil⟩
  | cons k e _ ih =>
    intro kvs ds r q
    cases r with
    | cons r1 r2 =>
      cases q with
      | cons q1 q2 =>
        obtain ⟨m1, m2⟩ := ih r2 q2
        obtain ⟨rk, rv⟩ := r1
        obtain ⟨qk, qv⟩ := q1
        constructor
        · refine ReadsAll.cons (as := []) (bs := []) ?_ m1
          dsimp only
          rw [qk, rk]
          exact kD_reads k
        · refine ReadsAll.cons (as := []) (bs := []) ?_ m2
          dsimp only
          rw [e]
          exact qv.reads rv
theorem Dq.reads {X : Cx} {pins : List (Addr × Obj)} {σ : L2.St} {H : Hp} {s : Shared} {v : V} {d : PyData} {u : Value} (I : Inv X pins σ H s) (nm : H sysModules = none) (q : Dq H v d) (r : RelV v u) :
    ∃ as, Reads s.heap u d as ∧ sysModules ∉ as := by
  cases q with
  | flat f => exact ⟨[], f.reads r, List.not_mem_nil⟩
  | @lst a xs ds e p =>
    cases (show u = Value.ref a from r)
    obtain ⟨_, its, n, rv, at_⟩ := (show ObjOk X.prog X.w H s.heap a (.lst xs) from I.hok a _ e)
    refine ⟨_, Reads.list at_ rfl rfl (flats p (by simpa using rv)), ?_⟩
    intro z
    rcases List.mem_cons.mp z with z | z
    · rw [z, e] at nm
      cases nm
    · cases z
  | @tup a xs ds e p =>
    cases (show u = Value.ref a from r)
    obtain ⟨_, its, rv, o, at_, oc, n, od⟩ := (show ObjOk X.prog X.w H s.heap a (.tup xs) from I.hok a _ e)
    exact ⟨_, Reads.tuple at_ oc od (flats p (by simpa using rv)), List.not_mem_nil⟩
  | @dic a kvs ds e p =>
    cases (show u = Value.ref a from r)
    obtain ⟨_, sm, vs, kv, o, es, ep, ho, hx, hd, _, ps, _⟩ := (show ObjOk X.prog X.w H s.heap a (.dK kvs) from I.hok a _ e)
    obtain ⟨r1, r2⟩ := pairs_keys (h := s.heap) ps kv p
    refine ⟨_, Reads.dict ho hx.1 hd r1 r2, ?_⟩
    intro z
    have z' : sysModules = a := by simpa using z
    rw [← z'] at sm
    simp at sm
theorem Dq.all {X : Cx} {pins : List (Addr × Obj)} {σ : L2.St} {H : Hp} {s : Shared} (I : Inv X pins σ H s) (nm : H sysModules = none) {vs : List V} {ds : List PyData} (p : Paired (Dq H) vs ds) :
    ∀ {us : List Value}, Vals vs us → ∃ as, ReadsAll s.heap us ds as ∧ sysModules ∉ as := by
  induction p with
  | nil =>
    intro us r
    cases r
    exact ⟨[], .nil, List.not_mem_nil⟩
  | cons q _ ih =>
    intro us r
    cases r with
    | cons r1 r2 =>
      obtain ⟨as, h1, n1⟩ := q.reads I nm r1
      obtain ⟨bs, h2, n2⟩ := ih r2
      exact ⟨as ++ bs, .cons h1 h2, fun z => (List.mem_append.mp z).elim n1 n2⟩
/-- repr of a list of such data -/
def rReprQ : List V → Hp → VK → Prop := fun xs H Q => ∃ a vs ds, xs = [.ref a] ∧ H a = some (.lst vs) ∧ Paired (Dq H) vs ds ∧ (PyData.list ds).showable = true ∧
  (PyData.list ds).depth ≤ 60 ∧ (PyData.list ds).shown.length ≤ sizeLine ∧ Q (.str (PyData.list ds).shown) H
theorem noSys {X : Cx} {pins : List (Addr × Obj)} {σ : L2.St} {H : Hp} {s : Shared} (I : Inv X pins σ H s) (sm : (X.K.lookup sysModules).isSome = true) : H sysModules = none := by
  obtain ⟨o, e⟩ := Option.isSome_iff_exists.mp sm
  exact (I.bs _ o (I.ok.mod.kin _ o e)).2
theorem call_reprQ {X : Cx} (sm : (X.K.lookup sysModules).isSome = true) (hg : X.A.guards = some []) (hu : X.A.units + 64 < cLine) : CallR X (.builtin "repr") rReprQ := by
  intro pins s σ H xs us Q I r h
  obtain ⟨a, vs, ds, rfl, e, p, sh, dp, sz, q⟩ := h
  obtain ⟨u, rfl, ru⟩ := vals1 r
  cases (show u = Value.ref a from ru)
  have nm := noSys I sm
  obtain ⟨_, its, n, rv, at_⟩ := (show ObjOk X.prog X.w H s.heap a (.lst vs) from I.hok a _ e)
  obtain ⟨as, ra, na⟩ := Dq.all I nm p rv
  refine repr_of_reads' (Reads.list at_ rfl rfl (by simpa using ra)) sh (fun _ z => ?_) hg (by omega) (fun _ _ e => e) (fun h' tk t' k => ⟨.str _, H, I.kept k, ⟨_, rfl⟩, q⟩) sz
  rcases List.mem_cons.mp z with z | z
  · rw [z, e] at nm
    cases nm
  · exact na z

/-! ### == of such data -/
def isD : PyData → Bool
  | .dict _ => true
  | _ => false
theorem Dq.dp {K : PySem.W.Frag} {H : Hp} {v : V} {d : PyData} (q : Dq H v d) (n : isD d = false) : Dp K H v d := by
  have fl : ∀ {v : V} {d : PyData}, Fl v d → Dp K H v d := fun f => by
    cases f with
    | non => exact .non
    | bl b => exact .bl b
    | int i => exact .int i
    | str z => exact .str z
  have all : ∀ {xs : List V} {ds : List PyData}, Paired Fl xs ds → DpAll K H xs ds := fun p => by
    induction p with
    | nil => exact .nil
    | cons f _ ih => exact .cons (fl f) ih
  cases q with
  | flat f => exact fl f
  | lst e p => exact .lst (.of e) (all p)
  | tup e p => exact .tup (.of e) (all p)
  | dic e p => cases n
/-- x == x -/
def rEqQ : R2 := fun x y H Q => x = y ∧ (∃ d, Dq H x d ∧ (if isD d = true then ∃ a kvs, x = .ref a ∧ H a = some (.dK kvs) ∧ ∀ p ∈ kvs, valV kvs p.1 = some p.2 ∧ flatB p.2 = true else SeqAt.shaped d = true ∧ PyData.eqv d d = true)) ∧ Q (.bl true) H
theorem op_eqQ {X : Cx} (hu : X.A.units + 64 < cLine) : OpR X (compareOp .Eq) rEqQ := by
  intro pins s σ H x y v u Q I rx ry h
  obtain ⟨rfl, ⟨d, q, c⟩, k⟩ := h
  split at c
  · obtain ⟨a, kvs, rfl, e, all⟩ := c
    refine op_eqV hu pins s σ H _ _ v u Q I rx ry ⟨1, by decide, .inr ⟨a, a, kvs, kvs, rfl, rfl, e, e, rfl, fun p hp => ⟨p.2, (all p hp).1, .inl ⟨rfl, (all p hp).2⟩⟩⟩, k⟩
  · rename_i nd
    have nd' : isD d = false := by simpa using nd
    refine op_eqD hu pins s σ H _ _ v u Q I rx ry ⟨d, d, q.dp nd', q.dp nd', c.1, c.1, ?_⟩
    rw [c.2]
    exact k
/-- x == y, two that differ -/
def rNeQ : R2 := fun x y H Q => (∃ d e, Dq H x d ∧ Dq H y e ∧ isD e = false ∧ (if isD d = true then (∃ a kvs, x = .ref a ∧ H a = some (.dK kvs)) ∧ ((∃ z, y = .str z) ∨ (∃ i, y = .int i) ∨ ∃ t xs, y = .ref t ∧ H t = some (.tup xs))
  else SeqAt.shaped d = true ∧ SeqAt.shaped e = true ∧ PyData.eqv d e = false)) ∧ Q (.bl false) H
theorem op_neQ {X : Cx} (hu : X.A.units + 64 < cLine) : OpR X (compareOp .Eq) rNeQ := by
  intro pins s σ H x y v u Q I rx ry h
  obtain ⟨⟨d, e, q1, q2, ne, c⟩, k⟩ := h
  split at c
  · exact op_noDict (by omega) pins s σ H _ _ v u Q I rx ry ⟨c.1, c.2, k⟩
  · rename_i nd
    refine op_eqD hu pins s σ H _ _ v u Q I rx ry ⟨d, e, q1.dp (by simpa using nd), q2.dp ne, c.1, c.2.1, ?_⟩
    rw [c.2.2]
    exact k
end CT
namespace CT
open PySem PySem.Spec PyProof.Rows L2
open He (ga ma fAd)

/-! ### f(..) with defaults -/
def ClD (P : Program) (w : World) (K : PySem.W.Frag) (mg : Str → Option Value) (base : Heap) (CX : CXT) (k : Nat) (x : Str) (sp : Sp) (dvs : List V) : Prop :=
  ∃ f fd ps ds, FnOk P w K mg base CX k f fd ps sp ∧ mg x = some (.ref f) ∧ PySem.W.keepIn K (.ref f) = true ∧ Binds K fd ps ds ∧ Vals dvs ds
section
variable {X : Cx} {CX : CXT} {j k : Nat} {x : Str} {sp : Sp} {E : XK} {p pos apos : Pos} {e o : Expr} {es : List Expr} {t : TA} {to : TE} {dvs : List V}
theorem pe_fd (c : ClD X.prog X.w X.K X.mg X.base CX k x sp dvs) (hr : Room j X.A) (hk : k ≤ j) (hx : Passes CX X E) (ha : PA X (e :: es) t) (hg : Gl X x := by rfl)
    (hdb : (x == ("__debug__" : Str)) = false := by decide) (he : starEach (e :: es) X.env = (false, eval e X.env) :: starEach es X.env := by rfl)
    (hpl : (backTo pos (starEach es X.env)).any (·.1) = false := by rfl) : PE X (.Call (.Name x p) (e :: es) [] pos) (tCall sp dvs E t) := by
  obtain ⟨f, fd, ps, ds, F, hm, kp, b, v⟩ := c
  exact pe_call F (hr.mono hk) hg hm kp b v hx ha hdb he hpl
theorem pe_popk {K' : PySem.W.Frag} (hK : X.K = K') (ho : PE X o to) (ha : PA X (e :: es) t)
    (hbase : attributeBase o "pop" X.env (eval o X.env) = eval o X.env := by rfl)
    (hfew : ((backTo pos (starEach (e :: es) X.env)).all (fun x => !x.1) && (backToKw pos (keywordEach [] X.env)).all (fun x => x.1.isSome)
      && decide ((e :: es).length + ([] : List Keyword).length + (if ([] : List Keyword).isEmpty then 0 else 1) < 30)) = true := by rfl)
    (hline : (apos.endLine == pos.line) = true := by rfl) (hs : starEach (e :: es) X.env = (false, eval e X.env) :: starEach es X.env := by rfl) (hplain : (backTo pos (starEach es X.env)).any (·.1) = false := by rfl) :
    PE X (.Call (.Attribute o "pop" apos) (e :: es) [] pos) (tBM K' "list" rPopAt to t) := by
  subst hK
  exact pe_bm F.plainAttrs_list F.slot_list_pop F.type_list_pop mt_popAt ho ha hbase hfew hline hs hplain
theorem pe_joinSk {K' : PySem.W.Frag} {te : TE} (hK : X.K = K') (ho : PE X o to) (he : PE X e te) (hs : starEach [e] X.env = [(false, eval e X.env)] := by rfl) (hbase : attributeBase o "join" X.env (eval o X.env) = eval o X.env := by rfl) (hline : (apos.endLine == pos.line) = true := by rfl) :
    PE X (.Call (.Attribute o "join" apos) [e] [] pos) (L2.tM1 (rJoin K') to te) := by
  subst hK
  exact pe_join ho he hs hbase hline
theorem pe_isalpha (ho : PE X o to) (hbase : attributeBase o "isalpha" X.env (eval o X.env) = eval o X.env := by rfl) (hline : (apos.endLine == pos.line) = true := by rfl) : PE X (.Call (.Attribute o "isalpha" apos) [] [] pos) (L2.tM0 (rS0 fun a => .bl (Txt.isalpha a)) to) :=
  pe_m0 F.slot_str_isalpha F.type_str_isalpha mt_isalpha ho hbase hline
theorem pe_islower (ho : PE X o to) (hbase : attributeBase o "islower" X.env (eval o X.env) = eval o X.env := by rfl) (hline : (apos.endLine == pos.line) = true := by rfl) : PE X (.Call (.Attribute o "islower" apos) [] [] pos) (L2.tM0 (rS0 fun a => .bl (Txt.islower a)) to) :=
  pe_m0 F.slot_str_islower F.type_str_islower mt_islower ho hbase hline
end
section
variable {σ : L2.St} {H : Hp} {Q : VK} {K : PySem.W.Frag}
theorem go_calld {sp : Sp} {dvs : List V} {E : XK} {t : TA} (k : t σ H fun vs H1 => sp (vs ++ dvs) H1 Q E) : tCall sp dvs E t σ H Q := k
theorem pass_none {P : Program} {w : World} {X : Cx} : Passes (L2.CX P w) X (fun _ _ _ => False) := fun _ _ _ _ _ _ _ h => by
  obtain ⟨_, _, _, _, _, _, _, _, _, _, _, _, z⟩ := h
  exact z.elim
/-! ### xs.pop(i) -/
def rBMP (K : PySem.W.Frag) (t : TA) (σ : L2.St) (x : V) (H1 : Hp) (Q : VK) : Prop := tyV K "list" x H1 ∧ t σ H1 fun xs H2 => rPopAt x xs H2 Q
theorem go_bmp {to : TE} {t : TA} (k : to σ H fun x H1 => rBMP K t σ x H1 Q) : tBM K "list" rPopAt to t σ H Q := k
theorem go_bmpx {l : Addr} {xs : List V} {t : TA} (h : SqL K H l xs) (k : t σ H fun vs H2 => rPopAt (.ref l) vs H2 Q) : rBMP K t σ (.ref l) H Q := ⟨.inl ⟨rfl, xs, h⟩, k⟩
theorem go_popat {l : Addr} {xs : List V} {j : Nat} {y : V} (h : H l = some (.lst xs)) (hj : xs[j]? = some y) (sz : xs.length ≤ 100000) (k : ∀ H', Kp l H H' → H' l = some (.lst (xs.eraseIdx j)) → Q y H') : rPopAt (.ref l) [.int (j : Nat)] H Q := by
  have hl := (List.getElem?_eq_some_iff.mp hj).1
  refine ⟨l, xs, _, j, y, rfl, rfl, h, by omega, by omega, ?_, hj, k _ Kp.put upd_same⟩
  unfold seqIndex?
  simp
  omega
/-- a display of one text and its value -/
theorem disp1_gm {z : Str} {v : V} (k : ∀ p H', H p = none → Same H H' → H' p = some (.dK [(.inr z, v)]) → Q (.ref p) H') : tDisp [(tC (.str z), tC v)] σ H Q := by
  intro p np
  refine ⟨upd_same, [(.inr z, v)], rfl, Nat.le_of_ble_eq_true rfl, ?_⟩
  rw [show mergeK [] [((.inr z : Key), v)] = [(.inr z, v)] from rfl, upd_upd]
  exact k p _ np (Same.new np) upd_same
/-! ### a list taken apart -/
theorem go_glst {n : Nat} {t : TGs} {a : Addr} {xs : List V} {R : St → Hp → Prop} (h : SqL K H a xs) (e : xs.length = n) (k : t xs σ H R) : gLst K n t (.ref a) σ H R := ⟨a, xs, rfl, h, e, k⟩
/-! ### a place to cut -/
def tMark (t : TS) : TS := fun D σ H => t D σ H
theorem mark_R {t : TS} {D : Ends} (R : St → Hp → Prop) (h : ∀ σ' H', R σ' H' → D.nx σ' H') (k : (∀ σ' H', R σ' H' → D.nx σ' H') → t D σ H) : tMark t D σ H := k h
theorem mark_N {t : TS} {D : Ends} (R : St → Hp → Prop) (h : ∀ σ' H', R σ' H' → D.nx σ' H') (k : ∀ N : St → Hp → Prop, (∀ σ' H', R σ' H' → N σ' H') → t { D with nx := N } σ H) : tMark t D σ H := k D.nx h
theorem go_unmark {t : TS} {D : Ends} (k : t D σ H) : tMark t D σ H := k
theorem ps_mark {X : Cx} {st : Stmt} {t : TS} (h : PS X st t) : PS X st (tMark t) := h
/-! ### texts put together -/
def rAddS : R2 := fun x y H Q => ∃ i j, x = .str i ∧ y = .str j ∧ i.length + j.length ≤ sizeLine ∧ Q (.str (i ++ j)) H
theorem op_addS {X : Cx} : OpR X (binaryOp .Add) rAddS := op_add_str
theorem go_adds {a b : Str} (hl : a.length + b.length ≤ 10000000) (k : Q (.str (a ++ b)) H) : rAddS (.str a) (.str b) H Q :=
  ⟨a, b, rfl, rfl, Nat.le_trans hl (by decide), k⟩
theorem go_strI' {i : Int} {R : Int → Prop} (k : R i) : ∃ j, V.int i = .int j ∧ R j := ⟨i, rfl, k⟩
/-! ### a comprehension over a range that changes what stands -/
theorem lcRangeG {j n : Nat} {vs : List Nat} {te : TE} (Pv : Addr → Nat → List V → Hp → Prop) (hn : n ≤ 100000) (hw : ∀ v, wipe ((wipe σ vs).set j (some v)) vs = wipe σ vs)
    (h0 : ∀ D H', H D = none → Same H H' → H' D = some (.lst []) → Pv D 0 [] H')
    (hs : ∀ D i acc H' (Q' : VK), i < n → H D = none → acc.length = i → Pv D i acc H' → H' D = some (.lst acc) →
      (∀ y H2, H2 D = some (.lst acc) → (∀ H3, Kp D H2 H3 → H3 D = some (.lst (acc ++ [y])) → Pv D (i + 1) (acc ++ [y]) H3) → Q' y H2) → te ((wipe σ vs).set j (some (.int i))) H' Q')
    (k : ∀ D acc H', H D = none → acc.length = n → Pv D n acc H' → H' D = some (.lst acc) → Q (.ref D) H') : rLc (Itr 0 n) (gName j) tYes te vs σ H Q := by
  intro D nD
  refine lc_range (lo := 0) (n := n) (fun i H' => ∃ acc, acc.length = i ∧ H' D = some (.lst acc) ∧ Pv D i acc H') ⟨[], rfl, upd_same, h0 D _ nD (Same.new nD) upd_same⟩ ?_ fun H' ⟨acc, e, d, p⟩ => k D acc H' nD e p d
  rintro i H' hi ⟨acc, e, d, p⟩
  refine ⟨hw _, ?_⟩
  refine go_yes ?_
  refine iteT ?_
  rw [Int.zero_add]
  refine hs D i acc H' _ hi nD e p d fun y H2 d2 g => ?_
  refine ⟨acc, d2, ?_, acc ++ [y], ?_, upd_same, g _ Kp.put upd_same⟩
  · rw [e]
    exact Nat.lt_of_lt_of_le (Nat.lt_of_lt_of_le hi hn) (by decide)
  · rw [List.length_append, e]
    rfl
theorem go_nnF {A B : Prop} (k : B) : if (!!false) = true then A else B := iteF k
theorem go_nnT {A B : Prop} (k : A) : if (!!true) = true then A else B := iteT k
theorem scal_bl {a b : Bool} (k : Q (.bl (decide (a = b))) H) : rEq (.bl a) (.bl b) H Q := by
  refine ⟨rfl, ?_⟩
  have e : decide (V.bl a = V.bl b) = decide (a = b) := decide_eq_decide.mpr ⟨fun h => by cases h; rfl, fun h => by rw [h]⟩
  rw [e]
  exact k
theorem scal_nbl {a b : Bool} (k : Q (.bl (!decide (a = b))) H) : rNe (.bl a) (.bl b) H Q := by
  refine ⟨rfl, ?_⟩
  have e : decide (V.bl a = V.bl b) = decide (a = b) := decide_eq_decide.mpr ⟨fun h => by cases h; rfl, fun h => by rw [h]⟩
  rw [e]
  exact k
end
end CT
namespace CT
open PySem PySem.Spec PyProof.Rows L2
open He (ga ma fAd)

/-! ### a class whose __init__ takes a star -/
section
variable {P : Program} {w : World} {K : PySem.W.Frag} {mg : Str → Option Value} {base : Heap} {x qual : Str} {params : Arguments} {body : List Stmt} {scope : Scope} {f : Addr} {fd : FuncData} {CX : CXT} {k : Nat}
def spStar1 (sp : Sp) : Sp := fun vs H Q E => ∃ ws rest, vs = ws ++ rest ∧ ws.length = 1 ∧ rest.length ≤ sizeLine ∧ ∀ p, H p = Option.none → sp (ws ++ [V.ref p]) (upd H p (.tup rest)) Q E
theorem _root_.L2.FunD.okS1 {N : List Str} {sp : Sp} {s1 pv : Str} (F : L2.FunD K x qual params body scope [] [] f fd) (S : FnScope N ([s1] ++ [pv]) scope) (hCX : StX.CXUp CX)
    (hb : ∀ (kV doc pm : Value) (an : Option Addr) (cdv ct : Value) (us rest : List Value), us.length = [s1].length → bindArgs (PySem.W.fnOf x qual params body scope .none kV doc pm an cdv ct) ⟨us ++ rest, []⟩ = (newTuple rest >>= fun t => pure ([s1].zip us ++ [(pv, t)])))
    (hbody : ∀ (cdv : Value) (A : Around) (outer : List Env) (s : Shared) (H : Hp) (vs : List V) (Q : VK) (E : XK), Room k (A.deeper (envOfC qual scope s.heap.objs.size f cdv)) → sp vs H Q E →
      ∃ t, PSs (cxOf CX P w K mg base N qual scope f cdv A outer s H E) body t ∧ t { nx := fun _ H' => Q .non H', rt := Q } (L2.start N vs) H) : FnR P w K mg base CX (k + 1) f (spStar1 sp) := by
  obtain ⟨oc, od, dV, kV, doc, pm, an, cdv, ct, osl, rfl, lk, hcd, hD, _⟩ := F.ex
  rcases hD with ⟨_, rfl⟩ | ⟨e, _⟩
  · exact StX.fn_star lk hcd S hCX (hb kV doc pm an cdv ct) fun A outer s H vs Q E hr hsp => hbody cdv A outer s H vs Q E hr hsp
  · exact absurd rfl e
/-- C(..), C's __init__ by its positional promise -/
def MkeS (P : Program) (w : World) (K : PySem.W.Frag) (mg : Str → Option Value) (base : Heap) (CX : CXT) (k : Nat) (x : Str) (sp : Sp) : Prop :=
  ∃ f, FnR P w K mg base CX k f sp ∧ Mk K (ga K x) f ∧ mg x = some (.ref (ga K x))
end
/-- a new instance, its arguments in a new tuple -/
def rMakeS (C : Addr) (sp : Sp) (E : XK) (vs : List V) (H1 : Hp) (Q : VK) : Prop := ∀ x dx, H1 x = Option.none → H1 dx = Option.none → dx ≠ x → sp (V.ref x :: vs) (upd (upd H1 dx (.own x)) x (.ins C dx [])) (fun v H2 => v = .non ∧ Q (.ref x) H2) E
section
variable {X : Cx} {CX : CXT} {j k i : Nat} {C : Addr} {sp : Sp} {E : XK} {x m : Str} {p pos sp_ : Pos} {e : Expr} {es : List Expr} {te : TE} {t : TA} {K' : PySem.W.Frag}
theorem pe_mkeS (hK : X.K = K') (c : MkeS X.prog X.w X.K X.mg X.base CX k x sp) (hr : Room j X.A) (hk : k + 1 ≤ j) (hx : Passes CX X E) (ha : PA X (e :: es) t) (hg : Gl X x := by rfl)
    (hdb : (x == ("__debug__" : Str)) = false := by decide) (he : starEach (e :: es) X.env = (false, eval e X.env) :: starEach es X.env := by rfl)
    (hpl : (backTo pos (starEach es X.env)).any (·.1) = false := by rfl) : PE X (.Call (.Name x p) (e :: es) [] pos) (StX.tMakeR (ga K' x) sp E t) := by
  subst hK
  obtain ⟨f, F, M, hm⟩ := c
  exact StX.pe_makeR M F (hr.mono hk) hg hm hx ha hdb he hpl
/-- C(*y) -/
def tMakeT (K : PySem.W.Frag) (C : Addr) (sp : Sp) (E : XK) (te : TE) : TE := fun σ H Q => te σ H fun y H1 => ∃ a xs, y = V.ref a ∧ (SqT K H1 a xs ∨ SqL K H1 a xs) ∧ rMakeS C sp E xs H1 Q
theorem pe_mkeT (hK : X.K = K') (c : MkeS X.prog X.w X.K X.mg X.base CX k x sp) (hr : Room j X.A) (hk : k + 1 ≤ j) (hx : Passes CX X E) (he : PE X e te) (hg : Gl X x := by rfl) (hd : (x == ("__debug__" : Str)) = false := by decide)
    (hst : starEach [.Starred e sp_] X.env = [(true, eval e X.env)] := by rfl) : PE X (.Call (.Name x p) [.Starred e sp_] [] pos) (tMakeT K' (ga K' x) sp E te) := by
  subst hK
  obtain ⟨f, F, M, hm⟩ := c
  refine ⟨fun pins s σ H Q I h => ?_⟩
  refine wpAny_Call_Name_kw (ld_glob I hg hm ?_ hd)
  refine PySem.W.callWith_S (h₀ := X.base) I.ok.mod.kin M.kp (thn (he.run pins s σ H _ I h) fun v s1 ⟨y, H1, I1, ry, a, xs, ey, hxs, q⟩ => ?_) hst
  subst ey
  obtain rfl : v = Value.ref a := ry
  exact StX.star_any I1 hxs fun us s2 I2 rv => ⟨I2.kIn, StX.run_makeR M F (hr.mono hk) hx I2 rv q⟩
/-- cls(*y), where a slot holds the class -/
def tMakeTL (K : PySem.W.Frag) (i : Nat) (C : Addr) (sp : Sp) (E : XK) (te : TE) : TE := fun σ H Q => σ[i]? = some (some (.ref C)) ∧ tMakeT K C sp E te σ H Q
theorem pe_mkeTL {x' : Str} (hK : X.K = K') (c : MkeS X.prog X.w X.K X.mg X.base CX k x' sp) (hr : Room j X.A) (hk : k + 1 ≤ j) (hx : Passes CX X E) (hN : X.N[i]? = some x) (he : PE X e te)
    (hv : Vis X.env.scope x := by first | exact Or.inl rfl | exact Or.inr (Or.inl rfl) | exact Or.inr (Or.inr rfl)) (hdb : (x == ("__debug__" : Str)) = false := by decide) (hcd : (x == ("__classdict__" : Str)) = false := by decide)
    (hst : starEach [.Starred e sp_] X.env = [(true, eval e X.env)] := by rfl) : PE X (.Call (.Name x p) [.Starred e sp_] [] pos) (tMakeTL K' i (ga K' x') sp E te) := by
  subst hK
  obtain ⟨f, F, M, hm⟩ := c
  refine ⟨fun pins s σ H Q I ⟨hs, h⟩ => ?_⟩
  refine wpAny_Call_Name_kw (thn ((pe_var (pos := p) hN hv hdb hcd).run pins s σ H (fun v H1 => v = .ref (ga X.K x') ∧ H1 = H) I ⟨_, hs, rfl, rfl⟩) fun u s1 ⟨v, H1, I1, r1, q1⟩ => ?_)
  obtain ⟨rfl, rfl⟩ := q1
  cases r1
  refine PySem.W.callWith_S (h₀ := X.base) I.ok.mod.kin M.kp (thn (he.run pins s1 σ _ _ I1 h) fun v s2 ⟨y, H2, I2, ry, a, xs, ey, hxs, q⟩ => ?_) hst
  subst ey
  obtain rfl : v = Value.ref a := ry
  exact StX.star_any I2 hxs fun us s3 I3 rv => ⟨I3.kIn, StX.run_makeR M F (hr.mono hk) hx I3 rv q⟩
end
section
variable {σ : L2.St} {H : Hp} {Q : VK} {K : PySem.W.Frag} {C : Addr} {sp : Sp} {E : XK} {t : TA} {te : TE} {i : Nat}
theorem go_mkS (k : t σ H fun vs H1 => rMakeS C sp E vs H1 Q) : StX.tMakeR C sp E t σ H Q := k
def rMkT (K : PySem.W.Frag) (C : Addr) (sp : Sp) (E : XK) (y : V) (H1 : Hp) (Q : VK) : Prop := ∃ a xs, y = V.ref a ∧ (SqT K H1 a xs ∨ SqL K H1 a xs) ∧ rMakeS C sp E xs H1 Q
theorem go_mkT (k : te σ H fun y H1 => rMkT K C sp E y H1 Q) : tMakeT K C sp E te σ H Q := k
theorem go_mkTx {a : Addr} {xs : List V} (h : SqT K H a xs ∨ SqL K H a xs) (k : rMakeS C sp E xs H Q) : rMkT K C sp E (.ref a) H Q := ⟨a, xs, rfl, h, k⟩
theorem go_mkTL (e : σ[i]? = some (some (.ref C))) (k : tMakeT K C sp E te σ H Q) : tMakeTL K i C sp E te σ H Q := ⟨e, k⟩
theorem atN {α : Type} {n : Nat} {xs : List α} {v : α} (h : xs[n]? = some v) : atI xs (n : Int) = some v := by
  have hl := (List.getElem?_eq_some_iff.mp h).1
  unfold atI ixN
  simp only [Int.natCast_nonneg, decide_true, Bool.true_and]
  simp [hl]
  exact (List.getElem?_eq_some_iff.mp h).2
theorem ixNat {n j : Nat} (h : j < n) : ixN n (j : Int) = some j := by
  unfold ixN
  simp [h]
theorem slA_rest {a : Addr} {x : V} {xs : List V} (h : SqT K H a (x :: xs)) (k : ∀ p H', H p = none → Same H H' → H' p = some (.tup xs) → Q (.ref p) H') : rSlA K (.ref a) (some 1) none H Q := by
  have e1 : HT.sIx (x :: xs).length 0 (some 1) = 1 := by
    unfold HT.sIx
    simp
    try omega
  refine ⟨a, _, rfl, h, fun ⟨z, _⟩ => absurd (z.symm.trans e1) (by decide), fun _ p np => ?_⟩
  have e : cutV (x :: xs) (some 1) none = xs := cut_from (x :: xs) 1
  rw [e]
  exact k p _ np (Same.new np) upd_same
/-- some of a range are kept -/
theorem lcRangeIf {lo : Int} {j n : Nat} {vs : List Nat} {tt : TT} {te : TE} (c : Nat → Bool) (f : Nat → V) (hn : n ≤ 100000) (hw : ∀ v, wipe ((wipe σ vs).set j (some v)) vs = wipe σ vs)
    (ht : ∀ (i : Nat) (H' : Hp) (Q' : Bool → Hp → Prop), i < n → Same H H' → (∀ H'', Same H' H'' → Q' (c i) H'') → tt ((wipe σ vs).set j (some (.int (lo + i)))) H' Q')
    (hs : ∀ (i : Nat) (H' : Hp) (Q' : VK), i < n → c i = true → Same H H' → (∀ H'', Same H' H'' → Q' (f i) H'') → te ((wipe σ vs).set j (some (.int (lo + i)))) H' Q')
    (k : ∀ D H', H D = none → Same H H' → H' D = some (.lst (((List.range n).filter c).map f)) → Q (.ref D) H') : rLc (Itr lo n) (gName j) tt te vs σ H Q := by
  intro D nD
  refine lc_range (lo := lo) (n := n) (fun i H' => Same H H' ∧ H' D = some (.lst (((List.range i).filter c).map f))) ⟨Same.new nD, upd_same⟩ ?_ fun H' ⟨s, d⟩ => k D H' nD s d
  rintro i H' hi ⟨s, d⟩
  refine ⟨hw _, ?_⟩
  have e1 : (List.range (i + 1)).filter c = (List.range i).filter c ++ (if c i = true then [i] else []) := by
    rw [List.range_succ, List.filter_append]
    cases q : c i <;> simp [q]
  refine ht i H' _ hi s fun H1 s1 => ?_
  refine go_b (fun e => ?_) fun e => ?_
  · refine hs i H1 _ hi e (s.trans s1) fun H'' s2 => ?_
    refine ⟨_, s2 _ _ (s1 _ _ d), ?_, ?_, ?_⟩
    · rw [List.length_map]
      have q := List.length_filter_le c (List.range i)
      rw [List.length_range] at q
      exact Nat.lt_of_lt_of_le (Nat.lt_of_le_of_lt q (Nat.lt_of_lt_of_le hi hn)) (by decide)
    · exact fun b o h => (upd_ne (ne_of_none h nD)).trans (s2 _ _ (s1 _ _ (s _ _ h)))
    · rw [e1, if_pos e, List.map_append]
      exact upd_same
  · refine ⟨s.trans s1, ?_⟩
    rw [e1, if_neg (by rw [e]; exact Bool.false_ne_true), List.append_nil]
    exact s1 _ _ d
theorem in_ints {x : Int} (ns : List Int) : L2.inV (.int x) (ns.map V.int) = decide (x ∈ ns) := by
  induction ns with
  | nil => rfl
  | cons n ns ih =>
    unfold L2.inV at ih ⊢
    rw [List.map_cons, List.any_cons, ih]
    by_cases h : n = x
    · subst h
      simp [L2.eqV]
    · have : ¬ x = n := fun q => h q.symm
      simp [L2.eqV, h, this]
theorem flat_ints (ns : List Int) : (ns.map V.int).all L2.flatV = true := by
  rw [List.all_map]
  simp [L2.flatV, Function.comp_def]
theorem go_inInts {a : Addr} {x : Int} {ns : List Int} (h : SqL K H a (ns.map V.int) ∨ SqT K H a (ns.map V.int)) (k : Q (.bl (decide (x ∈ ns))) H) : rIn K false (.int x) (.ref a) H Q := by
  refine ⟨a, _, rfl, h, rfl, flat_ints ns, ?_⟩
  rw [in_ints]
  exact k
theorem go_maxI {a : Addr} {ns : List Int} (h : SqL K H a (ns.map V.int)) (ne : ns ≠ []) (k : ∀ m, m ∈ ns → (∀ y, y ∈ ns → y ≤ m) → Q (.int m) H) : rMax K [.ref a] H Q := ⟨a, ns, rfl, h, List.length_pos_iff.mpr ne, k⟩
def rTupOf (K : PySem.W.Frag) : List V → Hp → VK → Prop := fun xs H Q => ∃ p ys, xs = [.ref p] ∧ ((SqL K H p ys ∧ ∀ l, H l = none → Q (.ref l) (upd H l (.tup ys))) ∨ (SqT K H p ys ∧ Q (.ref p) H))
theorem call_tupOf {X : Cx} : CallR X (.type "tuple") (rTupOf X.K) := call_tuple_of
theorem go_tupofL {a : Addr} {ys : List V} (h : SqL K H a ys) (k : ∀ p H', H p = none → Same H H' → H' p = some (.tup ys) → Q (.ref p) H') : rTupOf K [V.ref a] H Q :=
  ⟨a, ys, rfl, .inl ⟨h, fun l nl => k l _ nl (Same.new nl) upd_same⟩⟩
theorem go_tupofT {a : Addr} {ys : List V} (h : SqT K H a ys) (k : Q (.ref a) H) : rTupOf K [V.ref a] H Q := ⟨a, ys, rfl, .inr ⟨h, k⟩⟩
theorem tyOf_same {H' : Hp} {v : V} {t : Value} (h : TyOf K H v t) (s : Same H H') : TyOf K H' v t := by
  cases h with
  | non => exact .non
  | bl x => exact .bl x
  | int x => exact .int x
  | str x => exact .str x
  | flt x => exact .flt x
  | lst e => exact .lst (s _ _ e)
  | frz e => exact .frz (s _ _ e)
  | tup e => exact .tup (s _ _ e)
  | dK e => exact .dK (s _ _ e)
  | dT e => exact .dT (s _ _ e)
  | ins e c a b d f => exact .ins (s _ _ e) c a b d f
theorem tyX_same {H' : Hp} {v : V} {t : Value} (h : TyX K H v t) (s : Same H H') : TyX K H' v t := by
  cases h with
  | base b => exact .base (tyOf_same b s)
  | byt b => exact .byt b
  | set e => exact .set (s _ _ e)
  | kList e c => exact .kList e c
  | kTuple e c => exact .kTuple e c
  | kDict e c => exact .kDict e c
  | fTuple e => exact .fTuple (s _ _ e)
  | fDict e => exact .fDict (s _ _ e)
end
theorem du_or : PySem.dunder Operator.BitOr.info.2 = ("__or__" : Str) := by decide +kernel
theorem dr_or : dunderR Operator.BitOr.info.2 = ("__ror__" : Str) := by decide +kernel
theorem du_and : PySem.dunder Operator.BitAnd.info.2 = ("__and__" : Str) := by decide +kernel
theorem dr_and : dunderR Operator.BitAnd.info.2 = ("__rand__" : Str) := by decide +kernel
/-! ### x in o, o of an own class with __contains__ -/
def rInO (C : Addr) (neg : Bool) (sp : Sp) (E : XK) : R2 := fun x y H Q => ∃ a dx fs, y = .ref a ∧ H a = some (.ins C dx fs) ∧ sp [y, x] H (fun v H' => ∃ b, v = .bl b ∧ Q (.bl (if neg = true then !b else b)) H') E
section
variable {X : Cx} {CX : CXT} {j k : Nat} {C : Addr} {sp : Sp} {E : XK}
theorem op_inO (c : Op X.prog X.w X.K X.mg X.base CX k C "__contains__" sp) (hr : Room j X.A) (hk : k ≤ j) (hx : Passes CX X E) : OpR X (compareOp .In) (rInO C false sp E) := by
  obtain ⟨f, fd, ps, F, h1, h2, b⟩ := c
  intro pins s σ H x y v u Q I rx ry h
  obtain ⟨a, dx, fs, rfl, ha, q⟩ := h
  cases (show u = Value.ref a from ry)
  obtain ⟨mA, J, _⟩ := ins_get I.hok ha
  obtain ⟨od, J, _⟩ := J.look
  obtain ⟨m, hF⟩ := I.fr
  refine PySem.W.in_K hF I.ok.mod.kin J h1 h2 (wpAny_mono (run_at F b (hr.mono hk) I.env0 hx I (us := [.ref a, v]) (vs := [.ref a, x]) (.cons rfl (.cons rx .nil)) q) (fun r s' z => ?_) fun _ _ y => y)
  obtain ⟨z', H', I', rz, bb, rfl, qz⟩ := z
  cases (show r = Value.bool bb from rz)
  exact wpAny_truthy_bool ⟨.bl bb, H', I', rfl, qz⟩
theorem op_notInOwn (c : Op X.prog X.w X.K X.mg X.base CX k C "__contains__" sp) (hr : Room j X.A) (hk : k ≤ j) (hx : Passes CX X E) : OpR X (compareOp .NotIn) (rInO C true sp E) := by
  obtain ⟨f, fd, ps, F, h1, h2, b⟩ := c
  intro pins s σ H x y v u Q I rx ry h
  obtain ⟨a, dx, fs, rfl, ha, q⟩ := h
  cases (show u = Value.ref a from ry)
  obtain ⟨mA, J, _⟩ := ins_get I.hok ha
  obtain ⟨od, J, _⟩ := J.look
  obtain ⟨m, hF⟩ := I.fr
  refine PySem.W.notIn_K hF I.ok.mod.kin J h1 h2 (wpAny_mono (run_at F b (hr.mono hk) I.env0 hx I (us := [.ref a, v]) (vs := [.ref a, x]) (.cons rfl (.cons rx .nil)) q) (fun r s' z => ?_) fun _ _ y => y)
  obtain ⟨z', H', I', rz, bb, rfl, qz⟩ := z
  cases (show r = Value.bool bb from rz)
  exact wpAny_truthy_bool ⟨.bl (!bb), H', I', rfl, qz⟩
end
section
variable {H : Hp} {Q : VK} {C a dx : Addr} {fs : List (Str × V)} {sp : Sp} {E : XK} {x : V}
theorem go_inO (h : H a = some (.ins C dx fs)) (k : sp [.ref a, x] H (fun v H' => ∃ b, v = .bl b ∧ Q (.bl b) H') E) : rInO C false sp E x (.ref a) H Q := ⟨a, dx, fs, rfl, h, k⟩
theorem go_notInO (h : H a = some (.ins C dx fs)) (k : sp [.ref a, x] H (fun v H' => ∃ b, v = .bl b ∧ Q (.bl (!b)) H') E) : rInO C true sp E x (.ref a) H Q := ⟨a, dx, fs, rfl, h, k⟩
end
section
variable {σ : L2.St} {H : Hp} {Q : VK} {C a dx : Addr} {fs : List (Str × V)} {sp : Sp} {E : XK} {ta : TE}
def rPrp (C : Addr) (sp : Sp) (E : XK) (x : V) (H1 : Hp) (Q : VK) : Prop := ∃ a dx fs, x = .ref a ∧ H1 a = some (.ins C dx fs) ∧ sp (.ref a :: []) H1 Q E
theorem go_prp (k : ta σ H fun x H1 => rPrp C sp E x H1 Q) : tProp C sp [] E ta σ H Q := k
theorem go_prpx (h : H a = some (.ins C dx fs)) (k : sp [.ref a] H Q E) : rPrp C sp E (.ref a) H Q := ⟨a, dx, fs, rfl, h, k⟩
end
end CT
namespace CT
open PySem PySem.Spec PyProof.Rows L2
open He (ga ma fAd)

/-! ### set(xs), xs a list of ints -/
section
variable {P : Program} {w : World} {A : Around} {E : Value → Shared → Prop} {s : Shared}
/-- a set that was just made -/
abbrev bare (w : World) : Obj := { cls := .type "set", dict := none, data := .set #[] 0 (.fresh 0 0 (!w.params.followText "set-order")) }
/-- what is known once the list has been gone through -/
def Filled (w : World) (s : Shared) (ns : List Int) (v : Value) (s2 : Shared) : Prop := v = .none ∧ ∃ hp tk c, s2 = { s with heap := hp, toks := tk } ∧ SetR w hp s.heap.objs.size (fun j => decide (j ∈ ns)) c ∧ c ≤ ns.length ∧ ∀ b o, s.heap.get? b = some o → hp.get? b = some o
theorem fill_set {l : Addr} {xs : Array Value} {ns : List Int} (noh : A.handled = none) (isl : s.heap.IsList l xs) (are : IntsAre xs.toList ns) (few : ns.length + 1 < scanBound) :
    codeAny (model P w) A (.call (.builtin "set.__init__") ⟨[.ref s.heap.objs.size, .ref l], []⟩) (wants (Filled w s ns) E) { s with heap := s.heap.push (bare w) } := by
  have many : xs.size = ns.length := by
    have z := IntsAre.length are
    rwa [Array.length_toList] at z
  have here : (s.heap.push (bare w)).get? s.heap.objs.size = some (bare w) := Heap.get?_push_size _ rfl
  have kind : Shared.TypeIs { s with heap := s.heap.push (bare w) } (.ref s.heap.objs.size) "set" := ⟨_, here, rfl⟩
  refine codeAny_call_builtin F.called_set.init.plain F.entry_set_init (check_set_init_1 kind ?_)
  have there := Heap.lt_size isl.choose_spec.1
  have isl2 : (s.heap.push (bare w)).IsList l xs := isl.push _
  obtain ⟨⟨k1, k2, k3, k4⟩, k5, k6, k7, k8⟩ := isl2
  cases k6
  cases k8
  have isl3 : (s.heap.push (bare w)).IsList l xs := ⟨_, k5, rfl, _, rfl⟩
  have sub1 := F.sub_list_set
  have sub2 := F.sub_list_frozenset
  have noDict : (Value.type "list" == Value.type "dict") = false := by decide
  unfold Builtin.«set.__init__» noKeywords Builtin.Frozenset.updateFrom
  generalize walk : pyIter = walker
  wp_walk
  subst walk
  refine wpAny_pyIter_list isl3 (wpAny_bind (wpAny_runValue ?_))
  have size2 : (s.heap.push (bare w)).objs.size = s.heap.objs.size + 1 := Heap.size_push ..
  have noh3 : A.in1.in1.handled = none := by simp [noh]
  have apart : l ≠ (s.heap.push (bare w)).objs.size := Nat.ne_of_lt (by rw [size2]; exact Nat.lt_succ_of_lt there)
  refine set_update_ints ((Walks.list noh3 _ l apart xs).toS) s.heap.objs.size (fun z => ?_) ns many few (fun i v hv => ?_) (xs.size - 0) 0 _ (by omega) (Nat.zero_le _) ?_ ?_ (fun s2 c2 mv lc R2 => ?_)
  · rcases List.mem_cons.mp z with z | z
    · exact absurd z (Nat.ne_of_lt (by rw [size2]; exact Nat.lt_succ_self _))
    · exact absurd (List.mem_singleton.mp z) (Nat.ne_of_gt there)
  · have lt : i < ns.length := many ▸ (Array.getElem?_eq_some_iff.mp hv).1
    obtain ⟨tk, e⟩ := PyProof.Rows.IntsAre.int_at are i v (by rwa [Array.getElem?_toList])
    refine ⟨ns[i], tk, List.getElem?_eq_getElem lt, e.trans ?_⟩
    simp [List.getD_eq_getElem?_getD, lt]
  · exact ⟨⟨_, Heap.get?_push_size _ rfl, rfl, rfl⟩, isl3.push _⟩
  · exact ⟨0, Nat.le_refl 0, setR_new_at (w := w) (Heap.get?_push_of_some _ here)⟩
  · obtain ⟨h2, g2, d2, t2, o2⟩ := s2
    cases (show g2 = s.gens from mv.gens)
    cases (show d2 = s.drawn from mv.drawn)
    cases (show o2 = s.os from mv.os)
    show wpAny _ _ _ _ _ _
    refine wpAny_pure ?_
    show wpAny _ _ (ret Value.none) _ _ _
    refine wpAny_pure ⟨rfl, h2, t2, c2, rfl, R2, many ▸ lc, fun b o e => mv.heap b o (fun z => ?_) (Heap.get?_push_of_some _ (Heap.get?_push_of_some _ e))⟩
    have low := Heap.lt_size e
    rcases List.mem_cons.mp z with z | z
    · exact absurd z (Nat.ne_of_lt low)
    · exact absurd (List.mem_singleton.mp z) (Nat.ne_of_lt (by rw [size2]; exact Nat.lt_succ_of_lt low))
theorem set_of_list {l : Addr} {xs : Array Value} {ns : List Int} {Q : Value → Shared → Prop} (noh : A.handled = none) (isl : s.heap.IsList l xs) (are : IntsAre xs.toList ns) (few : ns.length + 1 < scanBound)
    (fin : ∀ hp tk c, SetR w hp s.heap.objs.size (fun j => decide (j ∈ ns)) c → c ≤ ns.length → (∀ b o, s.heap.get? b = some o → hp.get? b = some o) → Q (.ref s.heap.objs.size) { s with heap := hp, toks := tk }) :
    wpAny (model P w) A (call (.type "set") [.ref l]) Q E s := by
  obtain ⟨cm, tm, em⟩ := F.called_set.mro
  have f1 := F.called_set.made
  have f2 := F.called_set.sub
  have f3 := F.called_set.notType
  have f4 := F.called_set.canCreate
  have f5 := F.typeCall_set_1 (.ref l)
  refine wpAny_call (codeAny_of_tree ?_)
  show wpAny _ _ (callAny (.type "set") _) _ _ _
  refine wpAny_pure ⟨Code.quiet_builtin _ (by decide +kernel), codeAny_builtin F.entry_type_call ?_⟩
  rw [Around.under_plain (weight_type_call_type "set" [.ref l] []) rfl]
  repeat any_goals first | assumption | wp_step
  refine codeAny_mono (code_set_led1 (.ref l) (E := E) (Q₁ := fun v s1 => v = .ref s.heap.objs.size ∧ s1 = { s with heap := s.heap.push (bare w) }) ⟨rfl, rfl⟩) fun r s1 hr => ?_
  cases r with
  | error e => exact hr
  | ok fl => ?_
  cases fl with
  | ret v =>
    obtain ⟨rfl, rfl⟩ := hr
    have kind : Shared.TypeIs { s with heap := s.heap.push (bare w) } (.ref s.heap.objs.size) "set" := ⟨_, Heap.get?_push_size _ rfl, rfl⟩
    have f6 := F.called_set.init.lookup
    have f7 := F.called_set.init.bind (.ref s.heap.objs.size)
    repeat any_goals first | assumption | wp_step
    refine codeAny_mono (fill_set (E := E) (by simpa using noh) isl are few) fun r2 s2 h2 => ?_
    cases r2 with
    | error e => exact h2
    | ok fl2 => ?_
    cases fl2 with
    | ret v2 =>
      obtain ⟨rfl, hp, tk, c, rfl, R, lc, kp⟩ := h2
      repeat any_goals first | assumption | wp_step
      exact fin hp tk c R lc kp
    | _ => exact h2.elim
  | _ => exact hr.elim
end
def rSetI (K : PySem.W.Frag) (w : World) : List V → Hp → VK → Prop := fun vs H Q => ∃ (l : Addr) (ns : List Int), vs = [.ref l] ∧ SqL K H l (ns.map V.int) ∧ ns.length < 64 ∧
  ∀ p n, n ≤ ns.length → H p = none → Q (.ref p) (upd H p (SetO w p (fun j => decide (j ∈ ns)) n))
theorem cr_setI {X : Cx} (hc : X.calm = true) : CallR X (.type "set") (rSetI X.K X.w) := by
  intro pins s σ H vs us Q I r h
  obtain ⟨l, ns, rfl, hl, few, q⟩ := h
  rw [Vals.ref1 r]
  obtain ⟨its, rv, pl, _⟩ := I.list hl
  refine set_of_list (ns := ns) (I.ok.hd hc) pl.isList (ints_of_vals rv) (by unfold scanBound; omega) fun hp tk c R lc kp => ?_
  exact ⟨.ref _, upd H s.heap.objs.size (SetO X.w s.heap.objs.size (fun j => decide (j ∈ ns)) c), I.laid (t' := tk) kp (Nat.le_refl _) (setO_new R), rfl, q _ c lc (I.hok.fresh (Nat.le_refl _))⟩
theorem go_setI {K : PySem.W.Frag} {w : World} {H : Hp} {Q : VK} {l : Addr} {ns : List Int} (h : SqL K H l (ns.map V.int)) (few : ns.length < 64) (k : ∀ p n H', n ≤ ns.length → H p = none → Same H H' → H' p = some (SetO w p (fun j => decide (j ∈ ns)) n) → Q (.ref p) H') : rSetI K w [.ref l] H Q :=
  ⟨l, ns, rfl, h, few, fun p n ln np => k p n _ ln np (Same.new np) upd_same⟩
theorem go_sortedSet {w : World} {H : Hp} {Q : VK} {a : Addr} {S : Int → Bool} {n : Nat} (h : H a = some (SetO w a S n)) (few : n < 64) (k : ∀ (ns : List Int) p H', ns.Pairwise (· < ·) → (∀ i : Int, i ∈ ns ↔ S i = true) → H p = none → Same H H' → H' p = some (.lst (ns.map V.int)) → Q (.ref p) H') : rSortedSet w [.ref a] H Q :=
  ⟨a, S, n, rfl, h, few, fun ns p pw mm _ np => k ns p _ pw mm np (Same.new np) upd_same⟩
end CT
namespace Ln
/-! ### sums of lengths -/
inductive Sm (ns : List Nat) : Nat → Prop
  | zero : Sm ns 0
  | add {t l : Nat} : Sm ns t → l ∈ ns → Sm ns (t + l)
theorem Sm.mono {ns ms : List Nat} (h : ∀ n ∈ ns, n ∈ ms) : ∀ {t : Nat}, Sm ns t → Sm ms t := fun s => by
  induction s with
  | zero => exact .zero
  | add _ hl ih => exact .add ih (h _ hl)
theorem Sm.plus {ns : List Nat} {a : Nat} (ha : Sm ns a) : ∀ {b : Nat}, Sm ns b → Sm ns (a + b) := fun s => by
  induction s with
  | zero => exact ha
  | add _ hl ih => rw [← Nat.add_assoc]; exact .add ih hl
theorem Sm.times {ns : List Nat} {l : Nat} (hl : l ∈ ns) : ∀ k : Nat, Sm ns (k * l)
  | 0 => by rw [Nat.zero_mul]; exact .zero
  | k + 1 => by rw [Nat.succ_mul]; exact .add (Sm.times hl k) hl
theorem Sm.split {ns : List Nat} {l t : Nat} (h : Sm (ns ++ [l]) t) : ∃ p k : Nat, Sm ns p ∧ t = p + k * l := by
  induction h with
  | zero => exact ⟨0, 0, .zero, by omega⟩
  | @add t u _ hu ih =>
    obtain ⟨p, k, hp, e⟩ := ih
    rcases List.mem_append.mp hu with hu | hu
    · exact ⟨p + u, k, .add hp hu, by omega⟩
    · rw [List.mem_singleton] at hu
      subst hu
      exact ⟨p, k + 1, hp, by rw [Nat.succ_mul]; omega⟩
theorem Sm.join {ns : List Nat} {l p k : Nat} (h : Sm ns p) : Sm (ns ++ [l]) (p + k * l) :=
  (h.mono fun _ h => List.mem_append_left _ h).plus (Sm.times (List.mem_append_right _ (List.mem_singleton.mpr rfl)) k)
/-! ### tables -/
abbrev Row := List (Option Nat)
def Has (rows : Row) (r s : Nat) : Prop := rows[r]? = some (some s)
theorem Has.lt {rows : Row} {r s : Nat} (h : Has rows r s) : r < rows.length := (List.getElem?_eq_some_iff.mp h).1
theorem Has.inj {rows : Row} {r s t : Nat} (h : Has rows r s) (h' : Has rows r t) : s = t := by
  unfold Has at h h'
  rw [h] at h'
  cases h'
  rfl
/-- rows that only fall -/
structure Fall (R rows : Row) : Prop where
  len : rows.length = R.length
  le : ∀ r s, Has R r s → ∃ t, Has rows r t ∧ t ≤ s
theorem Fall.refl (R : Row) : Fall R R := ⟨rfl, fun _ s h => ⟨s, h, Nat.le_refl _⟩⟩
theorem Fall.trans {A B C : Row} (h : Fall A B) (k : Fall B C) : Fall A C := ⟨k.len.trans h.len, fun r s a => by
  obtain ⟨t, b, l⟩ := h.le r s a
  obtain ⟨u, c, l'⟩ := k.le r t b
  exact ⟨u, c, Nat.le_trans l' l⟩⟩
/-- both tables -/
abbrev St := Row × Row
/-- whether the goal is to be changed -/
def better (rows : Row) (rest goal l : Nat) : Bool := match rows[rest]? with
  | some (some s) => match rows[goal]? with
    | some (some g) => decide (s + l < g)
    | _ => true
  | _ => false
def step (m l : Nat) (x : St) (rest : Nat) : St :=
  if better x.1 rest ((rest + l) % m) l = true then (x.1.set ((rest + l) % m) (((x.1[rest]?.getD none).getD 0) + l), x.2.set ((rest + l) % m) (some l)) else x
def goes (m l first : Nat) : Nat → St → St
  | 0, x => x
  | t + 1, x => step m l (goes m l first t x) ((first + t * l) % m)
def circs (m l n : Nat) : Nat → St → St
  | 0, x => x
  | c + 1, x => goes m l c n (circs m l n c x)
def one (m l : Nat) (x : St) : St := circs m l (2 * (m / Nat.gcd l m)) (Nat.gcd l m) x
def start (m : Nat) : St := ((List.replicate m none).set 0 (some 0), List.replicate m none)
def table (ns : List Nat) : St := (ns.drop 1).foldl (fun x l => one ns.head! l x) (start ns.head!)
structure Len2 (m : Nat) (x : St) : Prop where
  a : x.1.length = m
  b : x.2.length = m
theorem Len2.step {m k l r : Nat} {x : St} (h : Len2 m x) : Len2 m (step k l x r) := by
  unfold Ln.step
  split
  · exact ⟨by rw [List.length_set]; exact h.a, by rw [List.length_set]; exact h.b⟩
  · exact h
theorem Len2.goes {m k l c : Nat} {x : St} (h : Len2 m x) : ∀ t, Len2 m (goes k l c t x)
  | 0 => h
  | t + 1 => (Len2.goes h t).step
theorem Len2.circs {m k l n : Nat} {x : St} (h : Len2 m x) : ∀ c, Len2 m (circs k l n c x)
  | 0 => h
  | c + 1 => (Len2.circs h c).goes n
theorem Len2.one {m k l : Nat} {x : St} (h : Len2 m x) : Len2 m (one k l x) := h.circs _
theorem Len2.fold {m k : Nat} : ∀ (ls : List Nat) {x : St}, Len2 m x → Len2 m (ls.foldl (fun x l => Ln.one k l x) x)
  | [], _, h => h
  | l :: ls, _, h => Len2.fold ls h.one
theorem Len2.start {m : Nat} : Len2 m (start m) := ⟨by unfold Ln.start; rw [List.length_set, List.length_replicate], by unfold Ln.start; rw [List.length_replicate]⟩
/-- what tables tell, of the lengths looked at so far (ns) -/
structure Ok (m : Nat) (ns : List Nat) (x : St) : Prop where
  len1 : x.1.length = m
  len2 : x.2.length = m
  sound : ∀ r s, Has x.1 r s → Sm ns s ∧ s % m = r
  zero : Has x.1 0 0
  last : ∀ r s, r ≠ 0 → Has x.1 r s → ∃ l p, Has x.2 r l ∧ l ∈ ns ∧ l ≤ s ∧ Has x.1 ((s - l) % m) p ∧ p ≤ s - l
theorem step_spec {m l rest : Nat} {ns : List Nat} {x : St} (hm : 0 < m) (hl : l ∈ ns) (l0 : 0 < l) (hr : rest < m) (h : Ok m ns x) : Ok m ns (step m l x rest) ∧ Fall x.1 (step m l x rest).1 ∧
    ∀ s, Has x.1 rest s → ∃ t, Has (step m l x rest).1 ((rest + l) % m) t ∧ t ≤ s + l := by
  have hg : (rest + l) % m < m := Nat.mod_lt _ hm
  unfold step
  by_cases b : better x.1 rest ((rest + l) % m) l = true
  · rw [if_pos b]
    generalize hgo : (rest + l) % m = goal at b hg ⊢
    obtain ⟨s, hs⟩ : ∃ s, Has x.1 rest s := by
      unfold better at b
      split at b
      · rename_i s e
        exact ⟨s, e⟩
      · cases b
    have es : (x.1[rest]?.getD none).getD 0 = s := by
      unfold Has at hs
      rw [hs]
      rfl
    rw [es]
    have bg : ∀ g, Has x.1 goal g → s + l < g := fun g hgg => by
      unfold better at b
      unfold Has at hs hgg
      rw [hs, hgg] at b
      exact of_decide_eq_true b
    have hgl : goal < x.1.length := by rw [h.len1]; exact hg
    have new : Has (x.1.set goal (some (s + l))) goal (s + l) := by
      unfold Has
      rw [List.getElem?_set_self hgl]
    have old : ∀ r t, r ≠ goal → (Has (x.1.set goal (some (s + l))) r t ↔ Has x.1 r t) := fun r t ne => by
      unfold Has
      rw [List.getElem?_set_ne (Ne.symm ne)]
    have fall : Fall x.1 (x.1.set goal (some (s + l))) := ⟨List.length_set, fun r t ht => by
      by_cases e : r = goal
      · subst e
        exact ⟨_, new, Nat.le_of_lt (bg t ht)⟩
      · exact ⟨t, (old r t e).mpr ht, Nat.le_refl _⟩⟩
    have g0 : goal ≠ 0 := fun e => by
      rw [e] at bg
      have := bg 0 h.zero
      omega
    have new2 : Has (x.2.set goal (some l)) goal l := by
      unfold Has
      rw [List.getElem?_set_self (by rw [h.len2]; exact hg)]
    have old2 : ∀ r t, r ≠ goal → Has x.2 r t → Has (x.2.set goal (some l)) r t := fun r t ne ht => by
      unfold Has
      rw [List.getElem?_set_ne (Ne.symm ne)]
      exact ht
    obtain ⟨ss, sr⟩ := h.sound rest s hs
    refine ⟨⟨by rw [List.length_set]; exact h.len1, by rw [List.length_set]; exact h.len2, fun r t ht => ?_, (old 0 0 (Ne.symm g0)).mpr h.zero, fun r t r0 ht => ?_⟩, fall, fun t ht => ⟨s + l, new, by rw [hs.inj ht]; exact Nat.le_refl _⟩⟩
    · by_cases e : r = goal
      · subst e
        obtain rfl := new.inj ht
        refine ⟨.add ss hl, ?_⟩
        rw [← hgo, ← sr, Nat.mod_add_mod]
      · exact h.sound r t ((old r t e).mp ht)
    · by_cases e : r = goal
      · subst e
        obtain rfl := new.inj ht
        obtain ⟨p, hp, lp⟩ := fall.le rest s hs
        refine ⟨l, p, new2, hl, by omega, ?_, by omega⟩
        rw [Nat.add_sub_cancel, sr]
        exact hp
      · obtain ⟨l', p, h1, h2, h3, h4, h5⟩ := h.last r t r0 ((old r t e).mp ht)
        obtain ⟨q, hq, lq⟩ := fall.le _ _ h4
        exact ⟨l', q, old2 r l' e h1, h2, h3, hq, by omega⟩
  · rw [if_neg b]
    refine ⟨h, Fall.refl _, fun s hs => ?_⟩
    unfold better at b
    unfold Has at hs
    cases q : x.1[(rest + l) % m]? with
    | none => simp [hs, q] at b
    | some v =>
      cases v with
      | none => simp [hs, q] at b
      | some g =>
        simp only [hs, q, decide_eq_true_eq] at b
        exact ⟨g, q, by omega⟩
theorem goes_spec {m l first : Nat} {ns : List Nat} (hm : 0 < m) (hl : l ∈ ns) (l0 : 0 < l) {x : St} (h : Ok m ns x) : ∀ t : Nat, Ok m ns (goes m l first t x) ∧ Fall x.1 (goes m l first t x).1 ∧
    ∀ j, j ≤ t → ∀ k, k ≤ j → ∀ s, Has x.1 ((first + (j - k) * l) % m) s → ∃ u, Has (goes m l first t x).1 ((first + j * l) % m) u ∧ u ≤ s + k * l
  | 0 => ⟨h, Fall.refl _, fun j hj k hk s hs => by
    obtain rfl : j = 0 := by omega
    obtain rfl : k = 0 := by omega
    exact ⟨s, hs, by omega⟩⟩
  | t + 1 => by
    obtain ⟨o, f, g⟩ := goes_spec hm hl l0 h t
    obtain ⟨o2, f2, g2⟩ := step_spec (rest := (first + t * l) % m) hm hl l0 (Nat.mod_lt _ hm) o
    refine ⟨o2, f.trans f2, fun j hj k hk s hs => ?_⟩
    by_cases e : j = t + 1
    · subst e
      by_cases k0 : k = 0
      · subst k0
        obtain ⟨u, hu, lu⟩ := (f.trans f2).le _ _ hs
        exact ⟨u, hu, by omega⟩
      · obtain ⟨u, hu, lu⟩ := g t (Nat.le_refl _) (k - 1) (by omega) s (by
          rw [show t - (k - 1) = t + 1 - k by omega]
          exact hs)
        obtain ⟨v, hv, lv⟩ := g2 u hu
        refine ⟨v, ?_, ?_⟩
        · rw [Nat.mod_add_mod, Nat.add_assoc, ← Nat.succ_mul] at hv
          exact hv
        · have : (k - 1) * l + l = k * l := by rw [← Nat.succ_mul, show (k - 1).succ = k by omega]
          omega
    · obtain ⟨u, hu, lu⟩ := g j (by omega) k hk s hs
      obtain ⟨v, hv, lv⟩ := f2.le _ _ hu
      exact ⟨v, hv, by omega⟩
/-! ### going round -/
theorem bez (a b : Nat) : ∃ x y : Int, (a : Int) * x + (b : Int) * y = (Nat.gcd a b : Nat) := by
  induction a, b using Nat.gcd.induction with
  | H0 b => exact ⟨0, 1, by rw [Nat.gcd_zero_left]; omega⟩
  | H1 a b ha ih =>
    obtain ⟨x, y, e⟩ := ih
    refine ⟨y - (b / a : Nat) * x, x, ?_⟩
    rw [Nat.gcd_rec a b, ← e]
    have d : (b : Int) = (a : Int) * ((b / a : Nat) : Int) + ((b % a : Nat) : Int) := by
      have := Nat.div_add_mod b a
      exact_mod_cast this.symm
    have : ((b % a : Nat) : Int) * x = (b : Int) * x - (a : Int) * ((b / a : Nat) : Int) * x := by
      rw [show ((b % a : Nat) : Int) = (b : Int) - (a : Int) * ((b / a : Nat) : Int) by omega, Int.sub_mul]
    rw [this, Int.mul_sub, Int.mul_assoc]
    omega
/-- each place of its class is come by -/
theorem reach {m l r first : Nat} (hm : 0 < m) (hr : r < m) (hf : first < Nat.gcd l m) (e : r % Nat.gcd l m = first) : ∃ j, j < m / Nat.gcd l m ∧ (first + j * l) % m = r := by
  have hd : 0 < Nat.gcd l m := Nat.gcd_pos_of_pos_right l hm
  obtain ⟨x, y, b⟩ := bez l m
  obtain ⟨n, en⟩ := Nat.gcd_dvd_right l m
  obtain ⟨l', el⟩ := Nat.gcd_dvd_left l m
  generalize Nat.gcd l m = d at *
  have nd : m / d = n := by rw [en, Nat.mul_div_cancel_left _ hd]
  have n0 : 0 < n := by
    rcases Nat.eq_zero_or_pos n with z | z
    · rw [z] at en; omega
    · exact z
  rw [nd]
  -- r = first + q * d
  have eq : r = first + (r / d) * d := by
    have := Nat.div_add_mod r d
    rw [e, Nat.mul_comm] at this
    omega
  let J : Int := ((r / d : Nat) : Int) * x
  refine ⟨(J % (n : Int)).toNat, ?_, ?_⟩
  · have h1 := Int.emod_lt_of_pos J (show (0 : Int) < n by omega)
    have h2 := Int.emod_nonneg J (show (n : Int) ≠ 0 by omega)
    omega
  · have h1 := Int.emod_lt_of_pos J (show (0 : Int) < n by omega)
    have h2 := Int.emod_nonneg J (show (n : Int) ≠ 0 by omega)
    have h3 : ((J % (n : Int)).toNat : Int) = J % n := Int.toNat_of_nonneg h2
    obtain ⟨z, ez⟩ : ∃ z, z = J / (n : Int) := ⟨_, rfl⟩
    have h4 : J % (n : Int) = J - n * z := by rw [ez]; exact Int.emod_def _ _
    -- J * l = (r / d) * d (mod m)
    have key : ((first + (J % (n : Int)).toNat * l : Nat) : Int) = r + (m : Int) * (-(((r / d : Nat) : Int) * y) - l' * z) := by
      rw [Int.natCast_add, Int.natCast_mul, h3, h4]
      have er : (r : Int) = first + ((r / d : Nat) : Int) * d := by exact_mod_cast eq
      have em : (m : Int) = d * n := by exact_mod_cast en
      have e2 : (l : Int) = d * l' := by exact_mod_cast el
      rw [er]
      show _ + (((r / d : Nat) : Int) * x - n * z) * l = _
      clear ez h4 h3 h2 h1
      clear J
      generalize ((r / d : Nat) : Int) = c at *
      have b' : (l : Int) * x = d - m * y := by omega
      have t1 : (c * x - n * z) * l = c * (l * x) - (n * l) * z := by
        rw [Int.sub_mul]
        congr 1
        · rw [Int.mul_assoc, Int.mul_comm x]
        · rw [Int.mul_assoc, Int.mul_comm z, ← Int.mul_assoc]
      have t2 : (n : Int) * l = m * l' := by
        rw [e2, em, ← Int.mul_assoc, Int.mul_comm (n : Int)]
      rw [t1, b', t2, Int.mul_sub, Int.mul_sub, Int.mul_neg, Int.mul_assoc (m : Int) l' z]
      have t3 : c * (m * y) = m * (c * y) := by rw [← Int.mul_assoc, Int.mul_comm c, Int.mul_assoc]
      rw [t3]
      omega
    have key2 : (((first + (J % (n : Int)).toNat * l) % m : Nat) : Int) = (r : Int) := by
      rw [Int.natCast_emod, key, Int.add_mul_emod_self_left]
      exact Int.emod_eq_of_lt (by omega) (by omega)
    exact_mod_cast key2
/-! ### all circles of one length -/
/-- the place r can't fall by the length l any more -/
def Done (m l : Nat) (R rows : Row) (r : Nat) : Prop := ∀ K p s, p < m → (p + K * l) % m = r → Has R p s → ∃ t, Has rows r t ∧ t ≤ s + K * l
theorem Done.fall {m l : Nat} {R rows rows' : Row} {r : Nat} (h : Done m l R rows r) (f : Fall rows rows') : Done m l R rows' r := fun K p s hp e hs => by
  obtain ⟨t, ht, lt⟩ := h K p s hp e hs
  obtain ⟨u, hu, lu⟩ := f.le r t ht
  exact ⟨u, hu, by omega⟩
theorem mod_cancel {a b c m : Nat} (h : (a + c) % m = (b + c) % m) : a % m = b % m := by
  have h' : ((a : Int) + c) % (m : Int) = ((b : Int) + c) % m := by exact_mod_cast h
  have := Int.emod_add_cancel_right (c : Int) |>.mp h'
  exact_mod_cast this
theorem goes_done {m l first : Nat} {ns : List Nat} (hm : 0 < m) (hl : l ∈ ns) (l0 : 0 < l) {R : Row} {x : St} (h : Ok m ns x) (fR : Fall R x.1) (hR : R.length = m) (hf : first < Nat.gcd l m) :
    ∀ r, r < m → r % Nat.gcd l m = first → Done m l R (goes m l first (2 * (m / Nat.gcd l m)) x).1 r := by
  intro r hr e K p s hp ep hs
  have hd : 0 < Nat.gcd l m := Nat.gcd_pos_of_pos_right l hm
  obtain ⟨n, en⟩ := Nat.gcd_dvd_right l m
  obtain ⟨l', el⟩ := Nat.gcd_dvd_left l m
  obtain ⟨j0, hj0, ej0⟩ := reach (l := l) hm hr hf e
  obtain ⟨o, f, g⟩ := goes_spec (first := first) hm hl l0 h (2 * (m / Nat.gcd l m))
  generalize hdd : Nat.gcd l m = d at *
  have nd : m / d = n := by rw [en, Nat.mul_div_cancel_left _ hd]
  rw [nd] at hj0 o f g ⊢
  have n0 : 0 < n := by omega
  have nl : n * l = m * l' := by rw [el, en, ← Nat.mul_assoc, Nat.mul_comm n d]
  -- where r is come by the second time
  have ej : (first + (n + j0) * l) % m = r := by
    rw [Nat.add_mul, nl, show first + (m * l' + j0 * l) = (first + j0 * l) + m * l' by omega, Nat.add_mul_mod_self_left]
    exact ej0
  have kn : K % n < n := Nat.mod_lt _ n0
  have kK : K % n * l ≤ K * l := Nat.mul_le_mul_right l (Nat.mod_le K n)
  -- the place p is come by K % n steps ahead
  have hp2 : (first + (n + j0 - K % n) * l) % m = p := by
    have e1 : (first + (n + j0) * l) % m = (p + K * l) % m := ej.trans ep.symm
    have e2 : K * l = K % n * l + (m * l') * (K / n) := by
      rw [← nl, Nat.mul_comm n l, Nat.mul_assoc, Nat.mul_comm l, ← Nat.add_mul]
      congr 1
      exact (Nat.mod_add_div K n).symm
    have e3 : (n + j0) * l = (n + j0 - K % n) * l + K % n * l := by rw [← Nat.add_mul]; congr 1; omega
    rw [e2, e3] at e1
    have e4 : (p + (K % n * l + m * l' * (K / n))) % m = (p + K % n * l) % m := by
      rw [← Nat.add_assoc, Nat.mul_assoc m, Nat.add_mul_mod_self_left]
    rw [e4, ← Nat.add_assoc] at e1
    exact (mod_cancel e1).trans (Nat.mod_eq_of_lt hp)
  obtain ⟨s1, hs1, ls1⟩ := fR.le p s hs
  obtain ⟨u, hu, lu⟩ := g (n + j0) (by omega) (K % n) (by omega) s1 (by rw [hp2]; exact hs1)
  rw [ej] at hu
  exact ⟨u, hu, by omega⟩
theorem circs_spec {m l : Nat} {ns : List Nat} (hm : 0 < m) (hl : l ∈ ns) (l0 : 0 < l) {x : St} (h : Ok m ns x) : ∀ c, c ≤ Nat.gcd l m → Ok m ns (circs m l (2 * (m / Nat.gcd l m)) c x) ∧ Fall x.1 (circs m l (2 * (m / Nat.gcd l m)) c x).1 ∧
    ∀ r, r < m → r % Nat.gcd l m < c → Done m l x.1 (circs m l (2 * (m / Nat.gcd l m)) c x).1 r
  | 0, _ => ⟨h, Fall.refl _, fun r _ z => absurd z (Nat.not_lt_zero _)⟩
  | c + 1, hc => by
    obtain ⟨o, f, d⟩ := circs_spec hm hl l0 h c (by omega)
    obtain ⟨o2, f2, _⟩ := goes_spec (first := c) hm hl l0 o (2 * (m / Nat.gcd l m))
    refine ⟨o2, f.trans f2, fun r hr hrc => ?_⟩
    by_cases e : r % Nat.gcd l m = c
    · exact goes_done hm hl l0 o f h.len1 (by omega) r hr e
    · exact (d r hr (by omega)).fall f2
theorem Ok.more {m : Nat} {ns ms : List Nat} {x : St} (h : Ok m ns x) (k : ∀ n ∈ ns, n ∈ ms) : Ok m ms x :=
  ⟨h.len1, h.len2, fun r s hs => ⟨(h.sound r s hs).1.mono k, (h.sound r s hs).2⟩, h.zero, fun r s r0 hs => by
    obtain ⟨l, p, a, b, c⟩ := h.last r s r0 hs
    exact ⟨l, p, a, k l b, c⟩⟩
/-- each sum has a least one of its rest -/
def Compl (m : Nat) (ns : List Nat) (rows : Row) : Prop := ∀ t, Sm ns t → ∃ s, Has rows (t % m) s ∧ s ≤ t
theorem one_spec {m l : Nat} {ns : List Nat} (hm : 0 < m) (l0 : 0 < l) {x : St} (h : Ok m ns x) (c : Compl m ns x.1) : Ok m (ns ++ [l]) (one m l x) ∧ Compl m (ns ++ [l]) (one m l x).1 := by
  have hl : l ∈ ns ++ [l] := List.mem_append_right _ (List.mem_singleton.mpr rfl)
  obtain ⟨o, f, d⟩ := circs_spec hm hl l0 (h.more fun _ h => List.mem_append_left _ h) (Nat.gcd l m) (Nat.le_refl _)
  refine ⟨o, fun t ht => ?_⟩
  obtain ⟨p, k, hp, e⟩ := ht.split
  obtain ⟨s, hs, ls⟩ := c p hp
  have hd : 0 < Nat.gcd l m := Nat.gcd_pos_of_pos_right l hm
  obtain ⟨u, hu, lu⟩ := d (t % m) (Nat.mod_lt _ hm) (Nat.mod_lt _ hd) k (p % m) s (Nat.mod_lt _ hm) (by rw [e, Nat.mod_add_mod]) hs
  exact ⟨u, hu, by omega⟩
theorem start_spec {m : Nat} (hm : 0 < m) : Ok m [m] (start m) ∧ Compl m [m] (start m).1 := by
  have z : Has (start m).1 0 0 := by
    unfold Has start
    rw [List.getElem?_set_self (by rw [List.length_replicate]; exact hm)]
  have only : ∀ r s, Has (start m).1 r s → r = 0 ∧ s = 0 := fun r s h => by
    by_cases e : r = 0
    · subst e
      exact ⟨rfl, h.inj z⟩
    · unfold Has start at h
      rw [List.getElem?_set_ne (Ne.symm e), List.getElem?_replicate] at h
      split at h <;> cases h
  refine ⟨⟨by unfold start; rw [List.length_set, List.length_replicate], by unfold start; rw [List.length_replicate], fun r s h => ?_, z, fun r s r0 h => absurd (only r s h).1 r0⟩, fun t ht => ?_⟩
  · obtain ⟨rfl, rfl⟩ := only r s h
    exact ⟨.zero, Nat.zero_mod _⟩
  · have : t % m = 0 := by
      induction ht with
      | zero => exact Nat.zero_mod _
      | add _ hu ih =>
        rw [List.mem_singleton.mp hu, Nat.add_mod_right]
        exact ih
    rw [this]
    exact ⟨0, z, Nat.zero_le _⟩
theorem fold_spec {m : Nat} (hm : 0 < m) : ∀ (ls ns : List Nat) (x : St), (∀ l ∈ ls, 0 < l) → Ok m ns x → Compl m ns x.1 → Ok m (ns ++ ls) (ls.foldl (fun x l => one m l x) x) ∧ Compl m (ns ++ ls) (ls.foldl (fun x l => one m l x) x).1
  | [], ns, x, _, o, c => by rw [List.append_nil]; exact ⟨o, c⟩
  | l :: ls, ns, x, h, o, c => by
    obtain ⟨o2, c2⟩ := one_spec hm (h l List.mem_cons_self) o c
    have := fold_spec hm ls (ns ++ [l]) (one m l x) (fun a ha => h a (List.mem_cons_of_mem _ ha)) o2 c2
    rw [List.append_assoc, List.singleton_append] at this
    exact this
theorem table_spec {m : Nat} {ls : List Nat} (hm : 0 < m) (h : ∀ l ∈ ls, 0 < l) : Ok m (m :: ls) (table (m :: ls)) ∧ Compl m (m :: ls) (table (m :: ls)).1 := by
  obtain ⟨o, c⟩ := start_spec hm
  exact fold_spec hm ls [m] (start m) h o c
/-! ### the divisor -/
def gcdl (ns : List Nat) : Nat := ns.foldl Nat.gcd 0
theorem foldg_dvd : ∀ (ns : List Nat) (g : Nat), ns.foldl Nat.gcd g ∣ g ∧ ∀ n ∈ ns, ns.foldl Nat.gcd g ∣ n
  | [], g => ⟨Nat.dvd_refl _, fun _ h => by cases h⟩
  | n :: ns, g => by
    obtain ⟨a, b⟩ := foldg_dvd ns (Nat.gcd g n)
    refine ⟨Nat.dvd_trans a (Nat.gcd_dvd_left g n), fun u hu => ?_⟩
    rcases List.mem_cons.mp hu with rfl | hu
    · exact Nat.dvd_trans a (Nat.gcd_dvd_right g u)
    · exact b u hu
theorem gcdl_dvd {ns : List Nat} {n : Nat} (h : n ∈ ns) : gcdl ns ∣ n := (foldg_dvd ns 0).2 n h
theorem gcdl_pos {ns : List Nat} {n : Nat} (h : n ∈ ns) (n0 : 0 < n) : 0 < gcdl ns := Nat.pos_of_dvd_of_pos (gcdl_dvd h) n0
theorem Sm.dvd {ns : List Nat} {t : Nat} (h : Sm ns t) : gcdl ns ∣ t := by
  induction h with
  | zero => exact Nat.dvd_zero _
  | add _ hl ih => exact Nat.dvd_add ih (gcdl_dvd hl)
theorem Sm.mul {ns : List Nat} {s : Nat} (h : Sm ns s) : ∀ k, Sm ns (k * s)
  | 0 => by rw [Nat.zero_mul]; exact .zero
  | k + 1 => by rw [Nat.succ_mul]; exact (Sm.mul h k).plus h
theorem foldg_reach {m : Nat} {ms : List Nat} (hm : 0 < m) : ∀ (ns : List Nat) (g : Nat), (∀ n ∈ ns, n ∈ ms) → (∃ s, Sm ms s ∧ s % m = g % m) → ∃ s, Sm ms s ∧ s % m = ns.foldl Nat.gcd g % m
  | [], g, _, h => h
  | n :: ns, g, h, ⟨s, hs, e⟩ => by
    refine foldg_reach hm ns (Nat.gcd g n) (fun a ha => h a (List.mem_cons_of_mem _ ha)) ?_
    obtain ⟨x, y, b⟩ := bez g n
    have m0 : (m : Int) ≠ 0 := by omega
    refine ⟨(x % m).toNat * s + (y % m).toNat * n, (hs.mul _).plus (Sm.times (h n List.mem_cons_self) _), ?_⟩
    have ex : ((x % (m : Int)).toNat : Int) = x % m := Int.toNat_of_nonneg (Int.emod_nonneg _ m0)
    have ey : ((y % (m : Int)).toNat : Int) = y % m := Int.toNat_of_nonneg (Int.emod_nonneg _ m0)
    have es : ((s : Int)) % m = (g : Int) % m := by exact_mod_cast e
    have key : (((x % (m : Int)).toNat * s + (y % (m : Int)).toNat * n : Nat) : Int) % m = ((Nat.gcd g n : Nat) : Int) % m := by
      rw [Int.natCast_add, Int.natCast_mul, Int.natCast_mul, ex, ey, ← b, Int.add_emod, Int.mul_emod (x % m), Int.mul_emod (y % m), Int.emod_emod, Int.emod_emod, es, ← Int.mul_emod, ← Int.mul_emod, ← Int.add_emod, Int.mul_comm x, Int.mul_comm y]
    exact_mod_cast key
theorem reach_sum {m r : Nat} {ns : List Nat} (hm : 0 < m) (h : gcdl ns ∣ r) : ∃ s, Sm ns s ∧ s % m = r % m := by
  obtain ⟨s, hs, e⟩ := foldg_reach hm ns 0 (fun _ h => h) ⟨0, .zero, rfl⟩
  obtain ⟨q, rfl⟩ := h
  refine ⟨q * s, hs.mul q, ?_⟩
  rw [Nat.mul_comm (gcdl ns), Nat.mul_mod, e, ← Nat.mul_mod]
  rfl
/-! ### what is a sum -/
theorem sum_iff {m : Nat} {ns : List Nat} {x : St} (hm : m ∈ ns) (o : Ok m ns x) (c : Compl m ns x.1) (t : Nat) : Sm ns t ↔ ∃ s, Has x.1 (t % m) s ∧ s ≤ t := by
  refine ⟨c t, fun ⟨s, hs, ls⟩ => ?_⟩
  obtain ⟨a, b⟩ := o.sound _ _ hs
  have e1 := Nat.div_add_mod t m
  have e2 := Nat.div_add_mod s m
  have e3 : m * (s / m) ≤ m * (t / m) := by omega
  have e4 : t = s + (t / m - s / m) * m := by
    rw [Nat.mul_comm, Nat.mul_sub]
    omega
  rw [e4]
  exact a.plus (Sm.times hm _)
/-- the greatest row -/
structure Top (rows : Row) (M : Nat) : Prop where
  le : ∀ r s, Has rows r s → s ≤ M
  at_ : ∃ r, Has rows r M
theorem cond_sum {m M t : Nat} {ns : List Nat} {x : St} (m0 : 0 < m) (hm : m ∈ ns) (o : Ok m ns x) (c : Compl m ns x.1) (T : Top x.1 M) (ht : gcdl ns ∣ t) (h : M + gcdl ns ≤ t + m) : Sm ns t := by
  rw [sum_iff hm o c]
  obtain ⟨u, hu, e⟩ := reach_sum (ns := ns) m0 ht
  obtain ⟨s, hs, ls⟩ := c u hu
  rw [e] at hs
  refine ⟨s, hs, ?_⟩
  have hM := T.le _ _ hs
  have g0 := gcdl_pos hm m0
  have es := (o.sound _ _ hs).2
  rcases Nat.lt_or_ge t s with q | q
  · -- s ≡ t, s > t: s ≥ t + m
    have e1 := Nat.div_add_mod t m
    have e2 := Nat.div_add_mod s m
    have e5 : t / m < s / m := by
      rcases Nat.lt_or_ge (t / m) (s / m) with z | z
      · exact z
      · have := Nat.mul_le_mul_left m z
        omega
    have := Nat.mul_le_mul_left m (show t / m + 1 ≤ s / m by omega)
    rw [Nat.mul_add] at this
    omega
  · exact q
theorem cond_not {m M : Nat} {ns : List Nat} {x : St} (m0 : 0 < m) (hm : m ∈ ns) (o : Ok m ns x) (c : Compl m ns x.1) (T : Top x.1 M) (h : m ≤ M) : ¬ Sm ns (M - m) := fun hs => by
  obtain ⟨r, hr⟩ := T.at_
  obtain ⟨s, hs', ls⟩ := c _ hs
  have er := (o.sound _ _ hr).2
  have e : (M - m) % m = r := by
    rw [← er]
    have : M = (M - m) + m := by omega
    rw [this, Nat.add_mod_right, Nat.add_sub_cancel]
  rw [e] at hs'
  have := hs'.inj hr
  omega
theorem top_dvd {m M : Nat} {ns : List Nat} {x : St} (o : Ok m ns x) (T : Top x.1 M) : gcdl ns ∣ M := by
  obtain ⟨r, hr⟩ := T.at_
  exact (o.sound _ _ hr).1.dvd
/-- what is left ahead of the last length is the row of its own rest -/
theorem Ok.last_eq {m : Nat} {ns : List Nat} {x : St} (o : Ok m ns x) (c : Compl m ns x.1) {r s : Nat} (h0 : r ≠ 0) (h : Has x.1 r s) : ∃ l, Has x.2 r l ∧ l ∈ ns ∧ l ≤ s ∧ Has x.1 ((s - l) % m) (s - l) := by
  obtain ⟨l, p, h1, h2, h3, h4, h5⟩ := o.last r s h0 h
  obtain ⟨sp, ep⟩ := o.sound _ _ h4
  have e : (p + l) % m = r := by
    rw [Nat.add_mod, ep, ← Nat.add_mod, Nat.sub_add_cancel h3]
    exact (o.sound _ _ h).2
  obtain ⟨t, ht, lt⟩ := c (p + l) (sp.add h2)
  rw [e] at ht
  have := ht.inj h
  have ps : p = s - l := by omega
  rw [ps] at h4
  exact ⟨l, h1, h2, h3, h4⟩
/-- the rest behind a length taken off -/
def less (m r l : Nat) : Nat := (((r : Int) - l) % m).toNat
theorem less_eq {m r s l : Nat} (hm : 0 < m) (e : s % m = r) (h : l ≤ s) : less m r l = (s - l) % m := by
  have h1 : (((r : Int) - l) % m) = (((s : Int) - l) % m) := by
    rw [← e, Int.natCast_emod, Int.sub_emod, Int.emod_emod_of_dvd _ (Int.dvd_refl _), ← Int.sub_emod]
  have h2 : (((s - l : Nat) : Int)) = (s : Int) - l := by omega
  unfold less
  rw [h1, ← h2, ← Int.natCast_emod, Int.toNat_natCast]
/-- the lengths that a row's sum ends with, from its end -/
def ends (m : Nat) (lasts : Row) : Nat → Nat → List Nat
  | 0, _ => []
  | f + 1, r => if r = 0 then [] else match (lasts[r]?).getD none with
    | some l => l :: ends m lasts f (less m r l)
    | none => []
theorem ends_spec {m : Nat} {ns : List Nat} {x : St} (hm : 0 < m) (pos : ∀ n ∈ ns, 0 < n) (o : Ok m ns x) (c : Compl m ns x.1) : ∀ (f s r : Nat), s ≤ f → Has x.1 r s → (ends m x.2 f r).sum = s ∧ ∀ l ∈ ends m x.2 f r, l ∈ ns
  | 0, s, r, hs, h => by
    refine ⟨?_, fun l hl => by cases hl⟩
    show 0 = s
    omega
  | f + 1, s, r, hs, h => by
    unfold ends
    by_cases h0 : r = 0
    · subst h0
      rw [if_pos rfl]
      exact ⟨h.inj o.zero ▸ rfl, fun l hl => by cases hl⟩
    · rw [if_neg h0]
      obtain ⟨l, hl, ln, le, hr⟩ := o.last_eq c h0 h
      have e : (x.2[r]?).getD none = some l := by
        unfold Has at hl
        rw [hl]
        rfl
      rw [e]
      dsimp only
      rw [less_eq hm (o.sound _ _ h).2 le]
      have := pos l ln
      obtain ⟨e1, e2⟩ := ends_spec hm pos o c f (s - l) _ (by omega) hr
      refine ⟨?_, fun k hk => ?_⟩
      · rw [List.sum_cons, e1]
        omega
      · rcases List.mem_cons.mp hk with rfl | hk
        · exact ln
        · exact e2 k hk
end Ln
namespace CT
open PySem PySem.Spec PyProof.Rows L2
/-! dicts with ints as keys: put, get with a default -/
theorem hu1 {k : Nat} {A : Around} (r : Room k A) : A.units + 1 < cLine := by
  have := r.un
  omega
section
variable {H : Hp} {Q : VK} {σ : L2.St} {a : Addr} {kvs : List (Key × V)} {i : Int} {v : V}
theorem go_dput {R : Hp → Prop} (h : H a = some (.dK kvs)) (hl : kvs.length ≤ 1000) (k : ∀ H', Kp a H H' → H' a = some (.dK (putK kvs (Sum.inl i) v)) → R H') : rSetD (.ref a) (.int i) v H R :=
  ⟨a, _, rfl, DPut.k (k := Sum.inl i) h (Nat.lt_of_le_of_lt hl (by decide)), k _ Kp.put upd_same⟩
theorem go_dget2 {td ty tx : TE} (k : td σ H fun x H1 => ∃ a, x = .ref a ∧ IsD H1 a ∧ ty σ H1 fun y H2 => tx σ H2 fun z H3 => ∃ o, DGet H3 a y o ∧ Q (o.getD z) H3) : tDGet2 td ty tx σ H Q := k
theorem go_dgetI {z : V} (h : H a = some (.dK kvs)) (k : Q ((valV kvs (Sum.inl i)).getD z) H) : ∃ o, DGet H a (.int i) o ∧ Q (o.getD z) H := ⟨_, DGet.k (k := Sum.inl i) h, k⟩
end
end CT
namespace CT
open PySem PySem.Spec PyProof.Rows L2
/-! ### dicts walked: locked while the walk lasts -/
section
variable {H H' : Hp} {Q : VK} {σ : L2.St} {K : PySem.W.Frag} {d : Addr} {kvs : List (Key × V)} {i j : Nat}
theorem lock_back {u : HO} {od : Obj} (h : H d = some u) (s : Same (upd H d (.frz od u)) H') : Same H (upd H' d u) := fun b o hb => by
  by_cases e : b = d
  · subst e
    rw [upd_same]
    rw [h] at hb
    exact hb
  · rw [upd_ne e]
    exact s b o (by rw [upd_ne e]; exact hb)
theorem lock_kp {u : HO} {od : Obj} (s : Same (upd H d (.frz od u)) H') : Kp d H H' := fun b o hb n => s b o (by rw [upd_ne n]; exact hb)
/-- for k in d: what was tracked stays -/
theorem forKeysL {g : TG} {tb : TS} {D : Ends} (hd : H d = some (.dK kvs)) (hσ : σ[i]? = some (some (.ref d))) (S : Nat → St → Prop) (h0 : S 0 σ)
    (hs : ∀ (od : Obj) (n : Nat) (k : Key) (v : V) (σ' : St) (Hl : Hp) (D' : Ends), kvs[n]? = some (k, v) → Hl d = some (.frz od (.dK kvs)) → Kp d H Hl → S n σ' → (∀ σ2 H2, Same Hl H2 → S (n + 1) σ2 → D'.nx σ2 H2) → g (kV k) σ' Hl fun σ2 H2 => tb D' σ2 H2)
    (hn : ∀ σ' H', Same H H' → S kvs.length σ' → D.nx σ' H') : tLock (tFor (iKeys (tVar i)) g tb) D σ H := by
  refine ⟨d, _, hd, trivial, fun od => ?_⟩
  refine ⟨_, hσ, d, od, rfl, .inl ⟨kvs, upd_same, ?_⟩⟩
  refine for_it walk_keys (fun n σ' Hl => Hl d = some (.frz od (.dK kvs)) ∧ Same (upd H d (.frz od (.dK kvs))) Hl ∧ S n σ') ⟨upd_same, Same.refl _, h0⟩ (fun _ _ _ _ p => p.1) ?_ ?_
  · rintro n x σ' Hl Hl' hi ⟨hl, sl, s⟩ ⟨rfl, k, v, hk, rfl⟩
    exact hs od n k v σ' Hl' _ hk hl (lock_kp sl) s fun σ2 H2 s2 q => ⟨s2 _ _ hl, sl.trans s2, q⟩
  · rintro σ' Hl ⟨hl, sl, s⟩
    exact ⟨hl, hn _ _ (lock_back hd sl) s⟩
/-- [.. for k in d] -/
theorem lcKeysL {vs : List Nat} {te : TE} (f : Key → V → V) (hd : H d = some (.dK kvs)) (hl : kvs.length ≤ 100000) (hσ : σ[i]? = some (some (.ref d))) (hw : ∀ v, wipe ((wipe σ vs).set j (some v)) vs = wipe σ vs)
    (hs : ∀ (od : Obj) (k : Key) (v : V) (Hl : Hp) (Q' : VK), (k, v) ∈ kvs → Hl d = some (.frz od (.dK kvs)) → Kp d H Hl → (∀ H'', Same Hl H'' → Q' (f k v) H'') → te ((wipe σ vs).set j (some (kV k))) Hl Q')
    (k : ∀ D H', H D = none → Same H H' → H' D = some (.lst (kvs.map fun p => f p.1 p.2)) → Q (.ref D) H') : tLockE (tLc (iKeys (tVar i)) (gName j) tYes te vs) σ H Q := by
  refine ⟨d, _, hd, trivial, fun od => ?_⟩
  refine ⟨_, hσ, d, od, rfl, .inl ⟨kvs, upd_same, ?_⟩⟩
  intro D nD
  have Dd : D ≠ d := fun e => by rw [e, upd_same] at nD; cases nD
  have nDH : H D = none := by rw [upd_ne Dd] at nD; exact nD
  refine lc_it walk_keys (fun n Hl => Hl d = some (.frz od (.dK kvs)) ∧ Same (upd H d (.frz od (.dK kvs))) Hl ∧ Hl D = some (.lst ((kvs.take n).map fun p => f p.1 p.2))) ⟨?_, Same.new nD, upd_same⟩ (fun _ _ _ p => p.1) ?_ ?_
  · rw [upd_ne (Ne.symm Dd)]
    exact upd_same
  · rintro n x Hl Hl' hi ⟨h1, sl, h2⟩ ⟨rfl, k', v, hk, rfl⟩
    refine ⟨hw _, ?_⟩
    refine go_yes ?_
    refine iteT ?_
    refine hs od k' v Hl' _ (List.mem_of_getElem? hk) h1 (lock_kp sl) fun H'' s2 => ?_
    refine ⟨_, s2 _ _ h2, ?_, ?_, ?_, ?_⟩
    · rw [List.length_map, List.length_take]
      exact Nat.lt_of_lt_of_le (Nat.lt_of_lt_of_le (show min n kvs.length < kvs.length by omega) hl) (by decide)
    · rw [upd_ne (Ne.symm Dd)]
      exact s2 _ _ h1
    · exact fun b o h => (upd_ne (ne_of_none h nD)).trans (s2 _ _ (sl _ _ h))
    · rw [List.take_add_one, hk, List.map_append]
      exact upd_same
  · rintro Hl ⟨h1, sl, h2⟩
    rw [List.take_length] at h2
    refine ⟨h1, k D _ nDH (lock_back hd sl) ?_⟩
    rw [upd_ne Dd]
    exact h2
def rDGet (x y : V) (H : Hp) (Q : VK) : Prop := ∃ a v, x = .ref a ∧ DGet H a y (some v) ∧ Q v H
theorem go_dget {td ty : TE} (k : td σ H fun x H1 => ty σ H1 fun y H2 => rDGet x y H2 Q) : tDGet td ty σ H Q := k
theorem go_dgetx {a : Addr} {k : Key} {v y : V} (h : Rd H a (.dK kvs)) (ey : y = kV k) (e : valV kvs k = some v) (q : Q v H) : rDGet (.ref a) y H Q := ⟨a, v, rfl, .inl ⟨kvs, k, h, ey, e.symm⟩, q⟩
def rRevL (K : PySem.W.Frag) (x : V) (H : Hp) (Q : VK) : Prop := ∃ a xs, x = .ref a ∧ SqL K H a xs ∧ ∀ p, H p = none → Q (.ref p) (upd H p (.lst xs.reverse))
theorem go_revL {te : TE} (k : te σ H fun x H1 => rRevL K x H1 Q) : tRevL K te σ H Q := k
theorem go_revx {a : Addr} {xs : List V} (h : SqL K H a xs) (k : ∀ p H', H p = none → Same H H' → H' p = some (.lst xs.reverse) → Q (.ref p) H') : rRevL K (.ref a) H Q :=
  ⟨a, xs, rfl, h, fun p n => k p _ n (Same.new n) upd_same⟩
theorem go_sum {a : Addr} {ns : List Int} (h : SqL K H a (ns.map V.int)) (k : Q (.int ns.sum) H) : rSum K [.ref a] H Q := ⟨a, ns, rfl, h, k⟩
/-- two dicts with the same pairs -/
theorem go_eqDA {a b : Addr} (ha : H a = some (.dK kvs)) (hb : H b = some (.dK kvs)) (all : ∀ p ∈ kvs, valV kvs p.1 = some p.2 ∧ flatB p.2 = true) (k : Q (.bl true) H) : rEqDA (.ref a) (.ref b) H Q := ⟨a, b, kvs, kvs, rfl, rfl, ha, hb, rfl, all, k⟩
theorem go_neDA {a b : Addr} (ha : H a = some (.dK kvs)) (hb : H b = some (.dK kvs)) (all : ∀ p ∈ kvs, valV kvs p.1 = some p.2 ∧ flatB p.2 = true) (k : Q (.bl false) H) : rNeDA (.ref a) (.ref b) H Q := ⟨a, b, kvs, kvs, rfl, rfl, ha, hb, rfl, all, k⟩
/-- a comprehension over a list that changes what stands -/
theorem lcListG {a : Addr} {xs : List V} {vs : List Nat} {te : TE} (Pv : Addr → Nat → List V → Hp → Prop) (hn : xs.length ≤ 100000) (hw : ∀ v, wipe ((wipe σ vs).set j (some v)) vs = wipe σ vs)
    (h0 : ∀ D H', H D = none → Same H H' → H' D = some (.lst []) → Pv D 0 [] H') (hl : ∀ D n acc H', H D = none → Pv D n acc H' → SqL K H' a xs)
    (hs : ∀ D n x acc H' (Q' : VK), xs[n]? = some x → H D = none → acc.length = n → Pv D n acc H' → H' D = some (.lst acc) →
      (∀ y H2, H2 D = some (.lst acc) → (∀ H3, Kp D H2 H3 → H3 D = some (.lst (acc ++ [y])) → Pv D (n + 1) (acc ++ [y]) H3) → Q' y H2) → te ((wipe σ vs).set j (some x)) H' Q')
    (k : ∀ D acc H', H D = none → acc.length = xs.length → Pv D xs.length acc H' → H' D = some (.lst acc) → Q (.ref D) H') : rLc (Itl K a) (gName j) tYes te vs σ H Q := by
  intro D nD
  refine lc_list (K := K) (a := a) (xs := xs) (fun i H' => ∃ acc, acc.length = i ∧ H' D = some (.lst acc) ∧ Pv D i acc H') ⟨[], rfl, upd_same, h0 D _ nD (Same.new nD) upd_same⟩ (fun i H' _ ⟨acc, _, _, p⟩ => hl D i acc H' nD p) ?_ fun H' ⟨acc, e, d, p⟩ => k D acc H' nD e p d
  rintro n x H' hi ⟨acc, e, d, p⟩
  have hlt := (List.getElem?_eq_some_iff.mp hi).1
  refine ⟨hw _, ?_⟩
  refine go_yes ?_
  refine iteT ?_
  refine hs D n x acc H' _ hi nD e p d fun y H2 d2 g => ?_
  refine ⟨acc, d2, ?_, acc ++ [y], ?_, upd_same, g _ Kp.put upd_same⟩
  · rw [e]
    exact Nat.lt_of_lt_of_le (Nat.lt_of_lt_of_le hlt hn) (by decide)
  · rw [List.length_append, e]
    rfl
end
/-! ### repr of any such data -/
def rReprV : List V → Hp → VK → Prop := fun xs H Q => ∃ v d, xs = [v] ∧ Dq H v d ∧ d.showable = true ∧ d.depth ≤ 60 ∧ d.shown.length ≤ sizeLine ∧ Q (.str d.shown) H
theorem call_reprV {X : Cx} (sm : (X.K.lookup sysModules).isSome = true) (hg : X.A.guards = some []) (hu : X.A.units + 64 < cLine) : CallR X (.builtin "repr") rReprV := by
  intro pins s σ H xs us Q I r h
  obtain ⟨v, d, rfl, p, sh, dp, sz, q⟩ := h
  obtain ⟨u, rfl, ru⟩ := vals1 r
  obtain ⟨as, ra, na⟩ := p.reads I (noSys I sm) ru
  cases p with
  | flat f =>
    have nd : isD d = false ∧ d.hasDict = false := by cases f <;> exact ⟨rfl, rfl⟩
    exact call_repr hg hu pins s σ H _ _ Q I r ⟨v, d, rfl, (Dq.flat f).dp nd.1, sh, nd.2, dp, sz, q⟩
  | lst e p =>
    cases (show u = Value.ref _ from ru)
    exact repr_of_reads' ra sh (fun _ z => na z) hg (by omega) (fun _ _ e => e) (fun h' tk t' k => ⟨.str _, H, I.kept k, ⟨_, rfl⟩, q⟩) sz
  | tup e p =>
    cases (show u = Value.ref _ from ru)
    exact repr_of_reads' ra sh (fun _ z => na z) hg (by omega) (fun _ _ e => e) (fun h' tk t' k => ⟨.str _, H, I.kept k, ⟨_, rfl⟩, q⟩) sz
  | dic e p =>
    cases (show u = Value.ref _ from ru)
    exact repr_of_reads' ra sh (fun _ z => na z) hg (by omega) (fun _ _ e => e) (fun h' tk t' k => ⟨.str _, H, I.kept k, ⟨_, rfl⟩, q⟩) sz
structure ReprOk (H : Hp) (v : V) (d : PyData) : Prop where
  dq : Dq H v d
  sh : d.showable = true
  dp : d.depth ≤ 60
  sz : d.shown.length ≤ 100000
theorem ReprOk.same {H H' : Hp} {v : V} {d : PyData} (h : ReprOk H v d) (s : Same H H') : ReprOk H' v d := ⟨h.dq.same s, h.sh, h.dp, h.sz⟩
theorem go_reprV {H : Hp} {Q : VK} {v : V} {d : PyData} (h : ReprOk H v d) (k : Q (.str d.shown) H) : rReprV [v] H Q := ⟨v, d, rfl, h.dq, h.sh, h.dp, Nat.le_trans h.sz (by decide), k⟩
end CT
namespace CT
open PySem PySem.Spec PyProof.Rows L2
open He (ga ma fAd)
open AutoSeq1 (wpAny_loadPart')
open MeetsSeq MeetsSeq2 MeetsSeq3 SeqRoads2

/-! ### == and != of two lists, where the items' comparisons run code of the program -/
def TwoL (l b : Addr) (N : Nat) (s : Shared) : Prop := ∃ (xs ys : Array Value) (n n2 : Nat), s.heap.get? l = some { cls := .type "list", data := .seq xs n } ∧ s.heap.get? b = some { cls := .type "list", data := .seq ys n2 } ∧ xs.size = N ∧ ys.size = N
def cmpCode (ne : Bool) : Int := if ne then 3 else 2
/-- the walk through both: P i before the i-th items -/
theorem walk_cmp {prog : Program} {w : World} {A : Around} {R : Result → Shared → Prop} {l b : Addr} {N : Nat} (ne : Bool) (P : Nat → Shared → Prop)
    (step : ∀ i s, P i s → ∃ (xs ys : Array Value) (n n2 : Nat), s.heap.get? l = some { cls := .type "list", data := .seq xs n } ∧ s.heap.get? b = some { cls := .type "list", data := .seq ys n2 } ∧ xs.size = N ∧ ys.size = N ∧
      ∀ (h1 : i < xs.size) (h2 : i < ys.size) (k : Bool → Shared → Prop), (∀ s', P (i + 1) s' → k true s') → (∀ s', TwoL l b N s' → R (.ok (.ret (.bool ne))) s' → k false s') →
        wpAny (model prog w) A.in1 (eqBool xs[i] ys[i]) k (fun e s' => R (.error e) s') s)
    (done : ∀ s, P N s → R (.ok (.ret (.bool (!ne)))) s) :
    ∀ left i : Nat, N - i = left → i ≤ N → ∀ s, P i s → wpAny (model prog w) A.in1 (Builtin.«list.__eq__.loop» ⟨[.ref l, .ref b, rawInt i, rawInt (cmpCode ne)], []⟩)
      (fun fin s' => match fin with | .done f => R (.ok f) s' | .again c' => c'.quiet = true ∧ codeAny (model prog w) A c' R s') (fun e s' => R (.error e) s') s := by
  intro left
  induction left with
  | zero =>
    intro i e le s p
    obtain ⟨xs, ys, n, n2, hl, hb, sx, sy, _⟩ := step i s p
    obtain rfl : i = N := by omega
    have fin := done s p
    obtain ⟨hp, g, d, tk, os⟩ := s
    cases ne
    all_goals
      wp_walk using wpAny_loadPart' hl, wpAny_loadPart' hb
      rw [show xs[((i : Nat) : Int).toNat]? = none from by simp [sx], show ys[((i : Nat) : Int).toNat]? = none from by simp [sy]]
      wp_walk using wpAny_loadPart' hl, wpAny_loadPart' hb
    · show R (.ok (.ret (.bool (xs.size == ys.size)))) _
      rw [sx, sy]
      simpa using fin
    · show R (.ok (.ret (.bool (xs.size != ys.size)))) _
      rw [sx, sy]
      simpa using fin
  | succ left ih =>
    intro i e le s p
    obtain ⟨xs, ys, n, n2, hl, hb, sx, sy, st⟩ := step i s p
    have h1 : i < xs.size := by omega
    have h2 : i < ys.size := by omega
    have st := st h1 h2
    obtain ⟨hp, g, d, tk, os⟩ := s
    cases ne
    all_goals
      wp_walk using wpAny_loadPart' hl, wpAny_loadPart' hb
      rw [show xs[((i : Nat) : Int).toNat]? = some xs[i] from by simp [h1], show ys[((i : Nat) : Int).toNat]? = some ys[i] from by simp [h2]]
      refine wpAny_bind (st _ (fun s' p' => ?_) fun s' t r => ?_)
      · obtain ⟨hp, g, d, tk, os⟩ := s'
        wp_walk
        rw [show ((i : Int) + 1) = ((i + 1 : Nat) : Int) from by push_cast; rfl]
        exact ⟨plainId_quiet plain_eq_loop _, codeAny_builtin entry_eq_loop (by
          rw [Around.under_plainId plain_eq_loop _]
          exact ih (i + 1) (by omega) (by omega) _ p')⟩
      · obtain ⟨us, ws, m, m2, tl, tb, tx, ty⟩ := t
        obtain ⟨hp, g, d, tk, os⟩ := s'
        wp_walk using wpAny_loadPart' tl, wpAny_loadPart' tb
        rw [show us[((i : Nat) : Int).toNat]? = some (us[i]'(by omega)) from by simp [show i < us.size by omega], show ws[((i : Nat) : Int).toNat]? = some (ws[i]'(by omega)) from by simp [show i < ws.size by omega]]
        wp_walk
        exact r
/-- what list == list asks where the items are instances of C: C's own ==, one pair after the other; p, q: the lists, xs0, ys0: all of them -/
def chEq (K : PySem.W.Frag) (C : Addr) (sp : Sp) (E : XK) (p q : Addr) (xs0 ys0 : List V) : List V → List V → (Bool → Hp → Prop) → Hp → Prop
  | [], [], Q, H => H p = some (.lst xs0) ∧ H q = some (.lst ys0) ∧ Q true H
  | x :: xs, y :: ys, Q, H => H p = some (.lst xs0) ∧ H q = some (.lst ys0) ∧ ∃ a dx fs b t, x = .ref a ∧ y = .ref b ∧ a ≠ b ∧ H a = some (.ins C dx fs) ∧ TyX K H y t ∧ PySem.W.notFirst K C t = true ∧
      sp [x, y] H (fun v H' => ∃ r, v = .bl r ∧ if r = true then chEq K C sp E p q xs0 ys0 xs ys Q H' else (H' p = some (.lst xs0) ∧ H' q = some (.lst ys0) ∧ Q false H')) E
  | [], _ :: _, _, _ => False
  | _ :: _, [], _, _ => False
theorem chEq.two {K : PySem.W.Frag} {C : Addr} {sp : Sp} {E : XK} {p q : Addr} {xs0 ys0 : List V} : ∀ {xs ys : List V} {Q : Bool → Hp → Prop} {H : Hp}, chEq K C sp E p q xs0 ys0 xs ys Q H → H p = some (.lst xs0) ∧ H q = some (.lst ys0)
  | [], [], _, _, h => ⟨h.1, h.2.1⟩
  | _ :: _, _ :: _, _, _, h => ⟨h.1, h.2.1⟩
  | [], _ :: _, _, _, h => h.elim
  | _ :: _, [], _, _, h => h.elim
def rEqL (K : PySem.W.Frag) (C : Addr) (sp : Sp) (E : XK) (ne : Bool) : R2 := fun x y H Q => ∃ p q xs ys, x = .ref p ∧ y = .ref q ∧ xs.length = ys.length ∧ chEq K C sp E p q xs ys xs ys (fun b H' => Q (.bl (if ne then !b else b)) H') H
section
variable {X : Cx} {CX : CXT} {j k : Nat} {C : Addr} {sp : Sp} {E : XK}
theorem two_at {pins : List (Addr × Obj)} {σ : L2.St} {H : Hp} {s : Shared} {p q : Addr} {xs ys : List V} (I : Inv X pins σ H s) (e : xs.length = ys.length) (h : H p = some (.lst xs) ∧ H q = some (.lst ys)) : TwoL p q xs.length s := by
  obtain ⟨_, its, n, rv, at_⟩ := (show ObjOk X.prog X.w H s.heap p (.lst xs) from I.hok p _ h.1)
  obtain ⟨_, its2, n2, rv2, at2⟩ := (show ObjOk X.prog X.w H s.heap q (.lst ys) from I.hok q _ h.2)
  exact ⟨its.toArray, its2.toArray, n, n2, at_, at2, by rw [List.size_toArray, ← rv.length], by rw [List.size_toArray, ← rv2.length, e]⟩
theorem cmp_loop (ne : Bool) (c : Op X.prog X.w X.K X.mg X.base CX k C "__eq__" sp) (hr : Room j X.A) (hk : k + 1 ≤ j) (hx : Passes CX X E) {pins : List (Addr × Obj)} {σ : L2.St} {H : Hp} {s : Shared} {Q : VK} {p q : Addr} {xs ys : List V}
    (len : xs.length = ys.length) (I : Inv X pins σ H s) (ch : chEq X.K C sp E p q xs ys xs ys (fun b H' => Q (.bl (if ne then !b else b)) H') H) :
    wpAny (model X.prog X.w) X.A.in1 (Builtin.«list.__eq__.loop» ⟨[.ref p, .ref q, rawInt 0, rawInt (cmpCode ne)], []⟩)
      (fun fin s' => match fin with | .done f => wants (fun r s' => r ≠ .notImplemented ∧ EP X pins σ Q r s') X.xe (.ok f) s' | .again c' => c'.quiet = true ∧ codeAny (model X.prog X.w) X.A c' (wants (fun r s' => r ≠ .notImplemented ∧ EP X pins σ Q r s') X.xe) s')
      (fun e s' => wants (fun r s' => r ≠ .notImplemented ∧ EP X pins σ Q r s') X.xe (.error e) s') s := by
  obtain ⟨f, fd, ps, Fn, h1, h2, b⟩ := c
  have hr1 := (hr.mono hk).in1
  have one : ∀ {s : Shared} {H : Hp} {zs ws : List V} {x y : V} {t u : Value} {Qb : Bool → Hp → Prop} {k : Bool → Shared → Prop}, Inv X pins σ H s → RelV x t → RelV y u → chEq X.K C sp E p q xs ys (x :: zs) (y :: ws) Qb H →
      (∀ s' H', Inv X pins σ H' s' → chEq X.K C sp E p q xs ys zs ws Qb H' → k true s') → (∀ s' H', Inv X pins σ H' s' → (H' p = some (.lst xs) ∧ H' q = some (.lst ys)) → Qb false H' → k false s') →
      wpAny (model X.prog X.w) X.A.in1 (eqBool t u) k X.xe s := by
    intro s H zs ws x y t u Qb k I rx ry ch yes no
    obtain ⟨_, _, a, dx, fs, b', tt, rfl, rfl, ab, ha, ty, nf, q⟩ := ch
    cases (show t = Value.ref a from rx)
    cases (show u = Value.ref b' from ry)
    obtain ⟨mA, J, _⟩ := ins_get I.hok ha
    obtain ⟨od, J, _⟩ := J.look
    obtain ⟨P, Z, hp, _⟩ := kit_of I ry ty
    obtain ⟨m, hF⟩ := I.fr
    have ne : (Value.ref a == Value.ref b') = false := by
      rw [beq_eq_false_iff_ne]
      intro z
      exact ab (by cases z; rfl)
    have comp : wpAny (model X.prog X.w) X.A.in1 (richCompare .Eq (.ref a) (.ref b')) (fun r s' => ∃ b, r = .bool b ∧ k b s') X.xe s := by
      refine PySem.W.cmp_K (op := .Eq) (tb := tt) hr1.units0 hF I.ok.mod.kin J (Z.ty _ _ I.kIn hp) nf h1 h2 ?_
      refine wpAny_mono (run_at (us := [.ref a, .ref b']) (vs := [.ref a, .ref b']) Fn b hr1 I.env0.in1 hx I (.cons rfl (.cons rfl .nil)) q) (fun w s' z => ?_) fun _ _ x => x
      obtain ⟨z', H', I', rz, bb, rfl, qz⟩ := z
      cases (show w = Value.bool bb from rz)
      cases bb
      · exact ⟨false, rfl, no s' H' I' ⟨(by simpa using qz.1), (by simpa using qz.2.1)⟩ (by simpa using qz.2.2)⟩
      · exact ⟨true, rfl, yes s' H' I' (by simpa using qz)⟩
    unfold eqBool
    refine wpAny_holding ?_
    simp only [ne, Bool.false_eq_true, if_false]
    exact wpAny_bind (wpAny_mono comp (fun r s' z => by
        obtain ⟨b, rfl, q⟩ := z
        exact wpAny_truthy_bool q) fun _ _ q => q)
  let P : Nat → Shared → Prop := fun i s => ∃ H, Inv X pins σ H s ∧ chEq X.K C sp E p q xs ys (xs.drop i) (ys.drop i) (fun b H' => Q (.bl (if ne then !b else b)) H') H
  have walk := walk_cmp (prog := X.prog) (w := X.w) (A := X.A) (R := wants (fun r s' => r ≠ .notImplemented ∧ EP X pins σ Q r s') X.xe) (l := p) (b := q) (N := xs.length) ne P (fun i s h => by
      obtain ⟨H, I, ch⟩ := h
      obtain ⟨_, its, n, rv, at_⟩ := (show ObjOk X.prog X.w H s.heap p (.lst xs) from I.hok p _ ch.two.1)
      obtain ⟨_, its2, n2, rv2, at2⟩ := (show ObjOk X.prog X.w H s.heap q (.lst ys) from I.hok q _ ch.two.2)
      refine ⟨its.toArray, its2.toArray, n, n2, at_, at2, by rw [List.size_toArray, ← rv.length], by rw [List.size_toArray, ← rv2.length, len], fun lt lt2 k yes no => ?_⟩
      have l1 : i < xs.length := by rw [rv.length]; simpa using lt
      have l2 : i < ys.length := by rw [rv2.length]; simpa using lt2
      rw [List.drop_eq_getElem_cons l1, List.drop_eq_getElem_cons l2] at ch
      obtain ⟨t, et, ri⟩ := rv.get (List.getElem?_eq_getElem l1)
      obtain ⟨t2, et2, ri2⟩ := rv2.get (List.getElem?_eq_getElem l2)
      have ei : its.toArray[i] = t := by
        have z : its.toArray[i]? = some t := by simpa using et
        exact (Array.getElem?_eq_some_iff.mp z).2
      have ei2 : its2.toArray[i] = t2 := by
        have z : its2.toArray[i]? = some t2 := by simpa using et2
        exact (Array.getElem?_eq_some_iff.mp z).2
      refine one I (ei.symm ▸ ri) (ei2.symm ▸ ri2) ch (fun s' H' I' c => yes s' ⟨H', I', c⟩) fun s' H' I' two qz => no s' (two_at I' len two) ?_
      exact ⟨by simp, .bl ne, H', I', rfl, by cases ne <;> exact qz⟩)
    (fun s h => by
      obtain ⟨H, I, ch⟩ := h
      rw [List.drop_length, len, List.drop_length] at ch
      exact ⟨by simp, .bl (!ne), H, I, rfl, by cases ne <;> exact ch.2.2⟩)
  exact walk xs.length 0 (by omega) (Nat.zero_le _) s ⟨H, I, ch⟩
theorem op_eqLst (c : Op X.prog X.w X.K X.mg X.base CX k C "__eq__" sp) (hr : Room j X.A) (hk : k + 1 ≤ j) (hx : Passes CX X E) : OpR X (compareOp .Eq) (rEqL X.K C sp E false) := by
  intro pins s σ H x y v u Q I rx ry h
  obtain ⟨p, q, xs, ys, rfl, rfl, len, ch⟩ := h
  cases (show v = Value.ref p from rx)
  cases (show u = Value.ref q from ry)
  obtain ⟨us, ws, n, n2, a1, a2, sx, sy⟩ := two_at I len ch.two
  have loop := cmp_loop false c hr hk hx len I ch
  show wpAny _ X.A (richCompare .Eq (.ref p) (.ref q)) _ _ s
  refine wpAny_richCompare_same_room (T := "list") (op := .Eq) ⟨_, a1, rfl⟩ ⟨_, a2, rfl⟩ F.slot_list_eq (call_meetsIn (B := Builtin.«list.__eq__») F.slot_list_eq ⟨_, a1, rfl⟩ F.entry_list_eq (F.args_list_eq_2 _ _)
    (S := fun A R s => wpAny (model X.prog X.w) A.in1 (Builtin.«list.__eq__» ⟨[.ref p, .ref q], []⟩)
      (fun fin s' => match fin with | .done f => R (.ok f) s' | .again c' => c'.quiet = true ∧ codeAny (model X.prog X.w) A c' R s') (fun e s' => R (.error e) s') s) (fun _ _ _ h => h) ?_) hr.units0
  have f3 := AutoSeq1.sub_list_list
  have hne : ¬ (us.size != ws.size) = true := by simp [sx, sy]
  obtain ⟨hp, g, d, tk, os⟩ := s
  wp_walk using wpAny_loadPart' a1, wpAny_loadPart' a2
  exact ⟨plainId_quiet plain_eq_loop _, codeAny_builtin entry_eq_loop (by
    rw [Around.under_plainId plain_eq_loop _]
    exact loop)⟩
theorem op_neLst (c : Op X.prog X.w X.K X.mg X.base CX k C "__eq__" sp) (hr : Room j X.A) (hk : k + 1 ≤ j) (hx : Passes CX X E) : OpR X (compareOp .NotEq) (rEqL X.K C sp E true) := by
  intro pins s σ H x y v u Q I rx ry h
  obtain ⟨p, q, xs, ys, rfl, rfl, len, ch⟩ := h
  cases (show v = Value.ref p from rx)
  cases (show u = Value.ref q from ry)
  obtain ⟨us, ws, n, n2, a1, a2, sx, sy⟩ := two_at I len ch.two
  have loop := cmp_loop true c hr hk hx len I ch
  show wpAny _ X.A (richCompare .NotEq (.ref p) (.ref q)) _ _ s
  refine wpAny_richCompare_same_room (T := "list") (op := .NotEq) ⟨_, a1, rfl⟩ ⟨_, a2, rfl⟩ F.slot_list_ne (call_meetsIn (B := Builtin.«list.__ne__») F.slot_list_ne ⟨_, a1, rfl⟩ F.entry_list_ne (F.args_list_ne_2 _ _)
    (S := fun A R s => wpAny (model X.prog X.w) A.in1 (Builtin.«list.__ne__» ⟨[.ref p, .ref q], []⟩)
      (fun fin s' => match fin with | .done f => R (.ok f) s' | .again c' => c'.quiet = true ∧ codeAny (model X.prog X.w) A c' R s') (fun e s' => R (.error e) s') s) (fun _ _ _ h => h) ?_) hr.units0
  have f3 := AutoSeq1.sub_list_list
  have hne : ¬ (us.size != ws.size) = true := by simp [sx, sy]
  obtain ⟨hp, g, d, tk, os⟩ := s
  wp_walk using wpAny_loadPart' a1, wpAny_loadPart' a2
  exact ⟨plainId_quiet plain_eq_loop _, codeAny_builtin entry_eq_loop (by
    rw [Around.under_plainId plain_eq_loop _]
    exact loop)⟩
end
/-! ### one clause behind a body that asks a def which may raise -/
def tTry (K : PySem.W.Frag) (c : Value) (i n : Nat) (ts : Addr → Value → Option Addr → TS) (tb : XK → TS) : TS := fun D σ H =>
  ∃ Ech : XK, (∀ cls d σ' H', Ech cls d H' → σ'.length = n → wKeep K c i ts (fun _ _ _ _ => False) D cls d σ' H') ∧ tb Ech D σ H
theorem ps_tryE {X : Cx} {x nm : Str} {c : Value} {i n : Nat} {body suite : List Stmt} {b0 : Stmt} {np pos pos' : Pos} {tb : XK → TS} {ts : Addr → Value → Option Addr → TS}
    (hs : X.stack = X.env :: X.outer) (hf : X.env.frame = some X.env.locals) (hex : X.ex = []) (hN : X.N.Nodup) (hi : X.N[i]? = some nm) (hln : X.env.kindOf nm = some .local) (hc : Names X x c) (hn : X.N.length = n)
    (hb : ∀ (Ech : XK) (pn : List (Addr × Obj)) (xe : Value → Shared → Prop), Takes (X.tr pn xe) (fun cls d _ H => Ech cls d H) → PSs (X.tr pn xe) body (tb Ech))
    (hsu : ∀ (a : Addr) (oe : Obj) (cls : Value) (d : Option Addr) (pn : List (Addr × Obj)), Zc cls d oe → (∃ vs, oe.data = .fields vs) → PSs (X.suite a ((a, oe) :: pn)) (b0 :: suite) (ts a cls d)) :
    PS X (.Try body [.ExceptHandler (some (.Name x np)) (some nm) (b0 :: suite) pos'] [] [] pos) (tTry X.K c i n ts tb) :=
  ps_try_keep (Wout := fun _ _ _ _ => False) (tb := fun W D σ H => ∃ Ech : XK, (∀ cls d σ' H', Ech cls d H' → σ'.length = n → W cls d σ' H') ∧ tb Ech D σ H) hs hf hex hN hi hln hc LamX.takes0
    (fun W pn xe tk _ => ⟨fun pins s' σ H' D I h' => by
      obtain ⟨Ech, hW, h3⟩ := h'
      exact (hb Ech pn xe ((takes_len tk).imp fun cls d σ H e l => hW cls d σ H e (l.trans hn))).run pins s' σ H' D I h3⟩) hsu
/-! ### three names at once -/
def par3 (i j l : Nat) (σ : St) (vs : List V) (k : St → Prop) : Prop := ∃ u v w, vs = [u, v, w] ∧ k (((σ.set i (some u)).set j (some v)).set l (some w))
theorem go_par3 {i j l : Nat} {ta : TA} {D : Ends} {σ : St} {H : Hp} (k : ta σ H fun vs H1 => par3 i j l σ vs fun σ' => D.nx σ' H1) : tPar3 i j l ta D σ H := k
theorem go_par3x {i j l : Nat} {σ σ' : St} {u v w : V} {k : St → Prop} (e : ((σ.set i (some u)).set j (some v)).set l (some w) = σ') (h : k σ') : par3 i j l σ [u, v, w] k := ⟨u, v, w, rfl, by rw [e]; exact h⟩
end CT
namespace CT
open PySem PySem.Spec PyProof.Rows L2
open He (ga ma fAd)
/-! ### instances that are called: v(e, ..), v(k = e, ..), v a name of the block -/
def tCallO (C : Addr) (sp : Sp) (E : XK) (ta : TE) (t : TA) : TE := fun σ H Q => ta σ H fun x H1 => ∃ a, x = .ref a ∧ t σ H1 fun vs H2 => ∃ dx fs, H2 a = some (.ins C dx fs) ∧ sp (x :: vs) H2 Q E
def Ca (P : Program) (w : World) (K : PySem.W.Frag) (mg : Str → Option Value) (base : Heap) (CX : CXT) (k : Nat) (C : Addr) (sp : Sp) : Prop :=
  ∃ f fd ps, FnOk P w K mg base CX k f fd ps sp ∧ PySem.W.findIn K (.ref C) "__call__" = some (some (.ref f)) ∧ PySem.W.isFn K (.ref f) = true ∧ PySem.W.fnIn K f = true ∧ Binds K fd ps []
theorem callee_of {M : Model} {A : Around} {Er : Value → Shared → Prop} {s : Shared} {K : PySem.W.Frag} {pos : Pos} {a C : Addr} {Q : Value → Shared → Prop} {as : List (Bool × Sem Value)} {ks : List (Option Str × Sem Value)}
    (flat : (as.any (·.1) || ks.any (·.1.isNone)) = false)
    (h : wpAny M A (evalArgs (.ref a) true as ks) (fun z s' => (∃ dx od, PySem.W.InstAt s'.heap a (PySem.W.instObj C dx) C od) ∧ wpAny M A (call (.ref a) ([] ++ z.pos) z.kw) Q Er s') Er s) :
    wpAny M A (callWith pos (.ref a) [] as ks) Q Er s := by
  unfold callWith
  refine wpAny_bind (wpAny_holding (wpAny_mono h ?_ fun _ _ e => e))
  rintro z s' ⟨⟨dx, od, J⟩, run⟩
  refine wpAny_bind (wpAny_standAt ?_)
  simp only [flat]
  have keep := PySem.W.kco_keeper (M := M) J rfl
  refine wpAny_bind (keep.here ?_)
  refine wpAny_bind (wpAny_mono (wpAny_operateT run) (fun r t hr => ?_) fun _ _ e => e)
  exact wpAny_bind (wpAny_holding (wpAny_point (wpAny_pure hr)))
section
variable {X : Cx} {CX : CXT} {j k : Nat} {C : Addr} {sp : Sp} {E : XK}
theorem run_ca (F : FnOk X.prog X.w X.K X.mg X.base CX k f fd ps sp) (h1 : PySem.W.findIn X.K (.ref C) "__call__" = some (some (.ref f))) (h2 : PySem.W.isFn X.K (.ref f) = true) (h3 : PySem.W.fnIn X.K f = true) (hr : Room k X.A) (hx : Passes CX X E)
    {pins : List (Addr × Obj)} {σ : L2.St} {H : Hp} {s : Shared} {Q : VK} {a dx : Addr} {fs : List (Str × V)} {z : Args} {us : List Value} {vs : List V} (I : Inv X pins σ H s) (ea : H a = some (.ins C dx fs)) (r : Vals vs us) (bt : us.length = ps.length → BindsTo s fd { z with pos := .ref a :: z.pos } (ps.zip us)) (h : sp vs H Q E) :
    (∃ dx od, PySem.W.InstAt s.heap a (PySem.W.instObj C dx) C od) ∧ wpAny (model X.prog X.w) X.A (call (.ref a) ([] ++ z.pos) z.kw) (EP X pins σ Q) X.xe s := by
  obtain ⟨mA, J, _⟩ := ins_get I.hok ea
  obtain ⟨od, J, _⟩ := J.look
  refine ⟨⟨dx, some od, J⟩, ?_⟩
  have hl := F.len _ _ _ _ h
  refine wpAny_call (PySem.W.kco_code (a := z) I.kIn J rfl h1 h2 h3 ?_)
  refine codeAny_mono (F.run X.A X.stack s H _ us vs _ E hr I.env0 (bt (by rw [← r.length]; exact hl)) r h) fun o t hq => ?_
  cases o with
  | error e => exact hx pins σ H s e t I hq
  | ok fl =>
    cases fl with
    | ret w => exact I.after hq
    | next => exact hq.elim
    | brk => exact hq.elim
    | cont => exact hq.elim
theorem pe_callO {x : Str} {p pos : Pos} {e : Expr} {es : List Expr} {ta : TE} {t : TA} (hv : PE X (.Name x p) ta) (c : Ca X.prog X.w X.K X.mg X.base CX k C sp) (hr : Room j X.A) (hk : k ≤ j) (hx : Passes CX X E) (ha : PA X (e :: es) t)
    (he : starEach (e :: es) X.env = (false, eval e X.env) :: starEach es X.env := by rfl) (hpl : (backTo pos (starEach es X.env)).any (·.1) = false := by rfl) : PE X (.Call (.Name x p) (e :: es) [] pos) (tCallO C sp E ta t) := by
  obtain ⟨f, fd, ps, F, h1, h2, h3, b⟩ := c
  refine ⟨fun pins s σ H Q I h => ?_⟩
  refine wpAny_Call_Name_kw (thn (hv.run pins s σ H _ I h) fun u s1 ⟨v, H1, I1, rv, a, ev, q⟩ => ?_)
  subst ev
  obtain rfl : u = Value.ref a := rv
  have hs := ha.run pos pins s1 σ H1 _ I1 q
  rw [he] at hs ⊢
  refine callee_of (K := X.K) (C := C) (by show ((false || (backTo pos (starEach es X.env)).any (·.1)) || false) = false; rw [hpl]; rfl) (Calls.evalArgs_plain (thn hs fun us s2 ⟨vs, H2, I2, r, dx, fs, ea, q2⟩ => ?_))
  refine run_ca (z := ⟨us, []⟩) (us := .ref a :: us) (vs := .ref a :: vs) F h1 h2 h3 (hr.mono hk) hx I2 ea (.cons rfl r) (fun hl => ?_) q2
  have z := b s2 (.ref a :: us) I2.kIn (by rw [List.append_nil]; exact hl)
  simpa using z
def tCallOK (C : Addr) (sp : Sp) (n : Nat) (gV : List V → List V → List V) (E : XK) (ta : TE) (tk : TA) : TE := fun σ H Q => ta σ H fun x H1 => ∃ a, x = .ref a ∧ tk σ H1 fun zs H2 => zs.length = n ∧ ∃ dx fs, H2 a = some (.ins C dx fs) ∧ sp (gV [x] zs) H2 Q E
def CaK (P : Program) (w : World) (K : PySem.W.Frag) (mg : Str → Option Value) (base : Heap) (CX : CXT) (k : Nat) (C : Addr) (sp : Sp) (ks : List Str) (gV : List V → List V → List V) : Prop :=
  ∃ f fd ps g, FnOk P w K mg base CX k f fd ps sp ∧ PySem.W.findIn K (.ref C) "__call__" = some (some (.ref f)) ∧ PySem.W.isFn K (.ref f) = true ∧ PySem.W.fnIn K f = true ∧ KBn K fd ps 1 ks g gV
theorem pe_callOK {x : Str} {p pos : Pos} {kws : List Keyword} {ks : List Str} {gV : List V → List V → List V} {ta : TE} {tk : TA} (hv : PE X (.Name x p) ta) (c : CaK X.prog X.w X.K X.mg X.base CX k C sp ks gV) (hr : Room j X.A) (hk : k ≤ j) (hx : Passes CX X E) (hkw : PK X kws tk)
    (hall : (backToKw pos (keywordEach kws X.env)).all (·.1.isSome) = true := by rfl) (hks : (backToKw pos (keywordEach kws X.env)).filterMap (·.1) = ks := by rfl)
    (hpl : ((backTo pos (starEach [] X.env)).any (·.1) || (backToKw pos (keywordEach kws X.env)).any (·.1.isNone)) = false := by rfl) : PE X (.Call (.Name x p) [] kws pos) (tCallOK C sp ks.length gV E ta tk) := by
  obtain ⟨f, fd, ps, g, F, h1, h2, h3, b⟩ := c
  refine ⟨fun pins s σ H Q I h => ?_⟩
  refine wpAny_Call_Name_kw (thn (hv.run pins s σ H _ I h) fun u s1 ⟨v, H1, I1, rv, a, ev, q⟩ => ?_)
  subst ev
  obtain rfl : u = Value.ref a := rv
  refine callee_of (K := X.K) (C := C) hpl (evalArgs_kw_nil hall (thn (hkw.run pos pins s1 σ H1 _ I1 q) fun ws s2 ⟨zs, H2, I2, rz, l2, dx, fs, ea, q2⟩ => ?_))
  rw [hks]
  refine run_ca (z := ⟨[], ks.zip ws⟩) (us := g [.ref a] ws) F h1 h2 h3 (hr.mono hk) hx I2 ea (b.rel (vs := [.ref a]) (us := [.ref a]) (.cons rfl .nil) rz) (fun _ => ?_) q2
  exact b.to s2 [.ref a] ws I2.kIn rfl (rz.length.symm.trans l2)
/-- what stands for v(..) in a walk -/
def rCallO (C : Addr) (sp : Sp) (E : XK) (t : TA) (σ : L2.St) (x : V) (H1 : Hp) (Q : VK) : Prop := ∃ a, x = .ref a ∧ t σ H1 fun vs H2 => ∃ dx fs, H2 a = some (.ins C dx fs) ∧ sp (x :: vs) H2 Q E
theorem go_callO {ta : TE} {t : TA} {σ : L2.St} {H : Hp} {Q : VK} (k : ta σ H fun x H1 => rCallO C sp E t σ x H1 Q) : tCallO C sp E ta t σ H Q := k
theorem callO_x {t : TA} {σ : L2.St} {H1 : Hp} {Q : VK} {a : Addr} (k : t σ H1 fun vs H2 => ∃ dx fs, H2 a = some (.ins C dx fs) ∧ sp (.ref a :: vs) H2 Q E) : rCallO C sp E t σ (.ref a) H1 Q := ⟨a, rfl, k⟩
def rCallOK (C : Addr) (sp : Sp) (n : Nat) (gV : List V → List V → List V) (E : XK) (tk : TA) (σ : L2.St) (x : V) (H1 : Hp) (Q : VK) : Prop := ∃ a, x = .ref a ∧ tk σ H1 fun zs H2 => zs.length = n ∧ ∃ dx fs, H2 a = some (.ins C dx fs) ∧ sp (gV [x] zs) H2 Q E
theorem go_callOK {n : Nat} {gV : List V → List V → List V} {ta : TE} {tk : TA} {σ : L2.St} {H : Hp} {Q : VK} (k : ta σ H fun x H1 => rCallOK C sp n gV E tk σ x H1 Q) : tCallOK C sp n gV E ta tk σ H Q := k
theorem callOK_x {n : Nat} {gV : List V → List V → List V} {tk : TA} {σ : L2.St} {H1 : Hp} {Q : VK} {a : Addr} (k : tk σ H1 fun zs H2 => zs.length = n ∧ ∃ dx fs, H2 a = some (.ins C dx fs) ∧ sp (gV [.ref a] zs) H2 Q E) : rCallOK C sp n gV E tk σ (.ref a) H1 Q := ⟨a, rfl, k⟩
theorem fn_of {K : PySem.W.Frag} {x qual : Str} {params : Arguments} {body : List Stmt} {scope : Scope} {dvs : List V} {kws : List (Str × V)} {f : Addr} {fd : FuncData} (F : FunD K x qual params body scope dvs kws f fd) : PySem.W.fnIn K f = true := by
  obtain ⟨oc, od, dV, kV, doc, pm, an, cdv, ct, osl, _, e, _⟩ := F.ex
  unfold PySem.W.fnIn
  rw [e]
end
end CT
--@@needs A10
namespace CT
open PySem PySem.Spec PyProof.Rows L2
open He (ga ma fAd)
open AutoSeq1 (wpAny_loadPart')
open MeetsSeq
/-! ### x not in a list, where x and some items are instances of C -/
def chIn2 (K : PySem.W.Frag) (C : Addr) (sp : Sp) (E : XK) (p : Addr) (xs : List V) (x : V) : List V → (Bool → Hp → Prop) → Hp → Prop
  | [], Q, H => H p = some (.lst xs) ∧ Q false H
  | y :: ys, Q, H => H p = some (.lst xs) ∧ ∃ a dx fs, x = .ref a ∧ H a = some (.ins C dx fs) ∧
      ((∃ n, OddV H y n ∧ PySem.W.mroIn K C (.type n) = some false ∧ sp [x, y] H (fun v H' => ∃ b, v = .bl b ∧ if b = true then Q true H' else chIn2 K C sp E p xs x ys Q H') E) ∨
       (∃ b dy gs t, y = .ref b ∧ b ≠ a ∧ H b = some (.ins C dy gs) ∧ TyX K H x t ∧ PySem.W.notFirst K C t = true ∧ sp [y, x] H (fun v H' => ∃ b, v = .bl b ∧ if b = true then Q true H' else chIn2 K C sp E p xs x ys Q H') E))
theorem chIn2.at_ {K : PySem.W.Frag} {C : Addr} {sp : Sp} {E : XK} {p : Addr} {xs : List V} {x : V} {ys : List V} {Q : Bool → Hp → Prop} {H : Hp} (h : chIn2 K C sp E p xs x ys Q H) : H p = some (.lst xs) := by
  cases ys with
  | nil => exact h.1
  | cons y ys => exact h.1
def rNotInO2 (K : PySem.W.Frag) (C : Addr) (sp : Sp) (E : XK) : R2 := fun x y H Q => ∃ p xs, y = .ref p ∧ chIn2 K C sp E p xs x xs (fun b H' => Q (.bl (!b)) H') H
section
variable {X : Cx} {CX : CXT} {j k : Nat} {C : Addr} {sp : Sp} {E : XK}
theorem op_notInO2 (c : Op X.prog X.w X.K X.mg X.base CX k C "__eq__" sp) (hr : Room j X.A) (hk : k + 1 ≤ j) (hx : Passes CX X E) : OpR X (compareOp .NotIn) (rNotInO2 X.K C sp E) := by
  obtain ⟨f, fd, ps, Fn, h1, h2, b⟩ := c
  have hr1 := (hr.mono hk).in1
  intro pins s σ H x y v u Q I rx ry h
  obtain ⟨p, xs, rfl, ch⟩ := h
  cases (show u = Value.ref p from ry)
  obtain ⟨_, its0, n0, rv0, at0⟩ := (show ObjOk X.prog X.w H s.heap p (.lst xs) from I.hok p _ ch.at_)
  -- the comparison with one item
  have one : ∀ {s : Shared} {H : Hp} {ys : List V} {y : V} {t : Value} {Qb : Bool → Hp → Prop} {k : Bool → Shared → Prop}, Inv X pins σ H s → RelV y t → chIn2 X.K C sp E p xs x (y :: ys) Qb H →
      (∀ s' H', Inv X pins σ H' s' → chIn2 X.K C sp E p xs x ys Qb H' → k false s') → (∀ s' H', Inv X pins σ H' s' → Qb true H' → k true s') →
      wpAny (model X.prog X.w) X.A.in1 (eqBool t v) k X.xe s := by
    intro s H ys y t Qb k I ry ch no yes
    obtain ⟨_, a, dx, fs, rfl, ha, ⟨n, odd, nm, q⟩ | ⟨b', dy, gs, tt, rfl, ba, hb', ty, nf, q⟩⟩ := ch
    rotate_left
    · cases (show v = Value.ref a from rx)
      cases (show t = Value.ref b' from ry)
      obtain ⟨mB, Jb, _⟩ := ins_get I.hok hb'
      obtain ⟨ob, Jb, _⟩ := Jb.look
      obtain ⟨Pb, Zb, hpb, _⟩ := kit_of I rx ty
      obtain ⟨mb, hFb⟩ := I.fr
      have ne2 : (Value.ref b' == Value.ref a) = false := by
        rw [beq_eq_false_iff_ne]
        intro z
        exact ba (by cases z; rfl)
      have comp2 : wpAny (model X.prog X.w) X.A.in1 (richCompare .Eq (.ref b') (.ref a)) (fun r s' => ∃ b, r = .bool b ∧ k b s') X.xe s := by
        refine PySem.W.cmp_K (op := .Eq) (tb := tt) hr1.units0 hFb I.ok.mod.kin Jb (Zb.ty _ _ I.kIn hpb) nf h1 h2 ?_
        refine wpAny_mono (run_at (us := [.ref b', .ref a]) (vs := [.ref b', .ref a]) Fn b hr1 I.env0.in1 hx I (.cons rfl (.cons rfl .nil)) q) (fun w s' z => ?_) fun _ _ x => x
        obtain ⟨z', H', I', rz, bb, rfl, qz⟩ := z
        cases (show w = Value.bool bb from rz)
        cases bb
        · exact ⟨false, rfl, no s' H' I' (by simpa using qz)⟩
        · exact ⟨true, rfl, yes s' H' I' (by simpa using qz)⟩
      unfold eqBool
      refine wpAny_holding ?_
      simp only [ne2, Bool.false_eq_true, if_false]
      exact wpAny_bind (wpAny_mono comp2 (fun r s' z => by
        obtain ⟨b, rfl, q⟩ := z
        exact wpAny_truthy_bool q) fun _ _ q => q)
    cases (show v = Value.ref a from rx)
    obtain ⟨mA, J, _⟩ := ins_get I.hok ha
    have ni := noInst I ha nm
    have hobj := J.obj
    obtain ⟨od', J', _⟩ := J.look
    obtain ⟨m, hF⟩ := I.fr
    have ne : (t == Value.ref a) = false := by
      rw [beq_eq_false_iff_ne]
      rintro rfl
      cases odd with
      | non => cases (show Value.ref a = Value.none from ry)
      | int i => obtain ⟨_, z⟩ := ry; cases z
      | bl i => cases (show Value.ref a = Value.bool i from ry)
      | str i => obtain ⟨_, z⟩ := ry; cases z
      | lst e => cases (show Value.ref a = Value.ref _ from ry); rw [e] at ha; cases ha
      | tup e => cases (show Value.ref a = Value.ref _ from ry); rw [e] at ha; cases ha
      | dK e => cases (show Value.ref a = Value.ref _ from ry); rw [e] at ha; cases ha
    have comp : wpAny (model X.prog X.w) X.A.in1 (richCompare .Eq t (.ref a)) (fun r s' => ∃ b, r = .bool b ∧ k b s') X.xe s := by
      refine cmp_R (op := .Eq) hr1.units0 hF I.ok.mod.kin J' (decl_eq I odd ry hobj ni) nm h1 h2 ?_
      refine wpAny_mono (run_at (us := [.ref a, t]) (vs := [.ref a, y]) Fn b hr1 I.env0.in1 hx I (.cons rfl (.cons ry .nil)) q) (fun w s' z => ?_) fun _ _ x => x
      obtain ⟨z', H', I', rz, bb, rfl, qz⟩ := z
      cases (show w = Value.bool bb from rz)
      refine ⟨bb, rfl, ?_⟩
      cases bb
      · exact no s' H' I' (by simpa using qz)
      · exact yes s' H' I' (by simpa using qz)
    unfold eqBool
    refine wpAny_holding ?_
    simp only [ne, Bool.false_eq_true, if_false]
    have tail : wpAny (model X.prog X.w) X.A.in1 (do truthOfDropped (← richCompare .Eq t (.ref a))) k X.xe s :=
      wpAny_bind (wpAny_mono comp (fun r s' z => by
        obtain ⟨b, rfl, q⟩ := z
        exact wpAny_truthy_bool q) fun _ _ q => q)
    cases t <;> exact tail
  -- the walk
  have tl : s.TypeIs (.ref p) "list" := ⟨_, at0, rfl⟩
  let G : Value → Shared → Prop := fun r s' => ∃ b, r = .bool b ∧ EP X pins σ Q (.bool (!b)) s'
  let P : Nat → Shared → Prop := fun i s => ∃ H, Inv X pins σ H s ∧ chIn2 X.K C sp E p xs x (xs.drop i) (fun b H' => Q (.bl (!b)) H') H
  have back : ∀ (b : Bool) s' H', Inv X pins σ H' s' → Q (.bl (!b)) H' → G (.bool b) s' := fun b s' H' I' q => ⟨b, rfl, .bl (!b), H', I', rfl, q⟩
  have walk := walk_in (prog := X.prog) (w := X.w) (A := X.A) (R := wants G X.xe) (l := p) (x := v) (N := xs.length) P (fun i s h => by
      obtain ⟨H, I, ch⟩ := h
      obtain ⟨_, its, n, rv, at_⟩ := (show ObjOk X.prog X.w H s.heap p (.lst xs) from I.hok p _ ch.at_)
      refine ⟨its.toArray, n, at_, by rw [List.size_toArray, ← rv.length], fun lt k no yes => ?_⟩
      have lt' : i < xs.length := by rw [rv.length]; simpa using lt
      have dr := List.drop_eq_getElem_cons lt'
      rw [dr] at ch
      obtain ⟨t, et, ri⟩ := rv.get (List.getElem?_eq_getElem lt')
      have ei : its.toArray[i] = t := by
        have z : its.toArray[i]? = some t := by simpa using et
        exact (Array.getElem?_eq_some_iff.mp z).2
      exact one I (ei.symm ▸ ri) ch (fun s' H' I' c => no s' ⟨H', I', c⟩) fun s' H' I' q => yes s' (back true s' H' I' q))
    (fun s h => by
      obtain ⟨H, I, ch⟩ := h
      rw [List.drop_length] at ch
      exact back false s H I ch.2)
  show wpAny _ X.A (do return Value.bool (!(← contains (.ref p) v))) _ _ s
  refine wpAny_bind (wpAny_contains_slot tl F.slot_list_contains (wpAny_mono (call_meetsIn (B := Builtin.«list.__contains__») (Q := G) F.slot_list_contains tl F.entry_list_contains (F.args_list_contains_2 _ _)
    (S := fun A R s => wpAny (model X.prog X.w) A.in1 (Builtin.«list.__contains__» ⟨[.ref p, v], []⟩)
      (fun fin s' => match fin with | .done f => R (.ok f) s' | .again c' => c'.quiet = true ∧ codeAny (model X.prog X.w) A c' R s') (fun e s' => R (.error e) s') s) (fun _ _ _ h => h) ?_) (fun r s' hr => ?_) fun _ _ e => e))
  · have p0 : P 0 s := ⟨H, I, ch⟩
    have start := walk xs.length 0 (by omega) (Nat.zero_le _)
    obtain ⟨hp, g, d, tk, os⟩ := s
    wp_walk using wpAny_loadPart' at0
    exact ⟨plainId_quiet plain_contains_loop _, codeAny_builtin entry_contains_loop (by
      rw [Around.under_plainId plain_contains_loop _]
      exact start _ p0)⟩
  · obtain ⟨b, rfl, q⟩ := hr
    exact wpAny_truthy_bool (wpAny_pure q)
end
end CT
--@@needed
/-! ### buckets: what they let, by plain numbers -/
namespace Bk
def bnd (b r e t : Int) : Int := b + r * (t / e)
theorem bnd_mono {b r e s t : Int} (hr : 0 ≤ r) (he : 0 < e) (h : s ≤ t) : bnd b r e s ≤ bnd b r e t := by
  have q := Int.ediv_le_ediv he h
  have := Int.mul_le_mul_of_nonneg_left q hr
  unfold bnd
  omega
theorem bnd_floor {b r e t : Int} (he : 0 < e) : bnd b r e (e * (t / e)) = bnd b r e t := by
  unfold bnd
  rw [Int.mul_ediv_cancel_left _ (by omega)]
/-- at most, by one's own moments -/
def atMost (b1 r1 e1 b2 r2 e2 : Int) : Bool := decide (r1 * e2 ≤ r2 * e1) && (List.range e2.toNat).all fun i => decide (bnd b1 r1 e1 (e1 * i) ≤ bnd b2 r2 e2 (e1 * i))
/-- at most, by all moments of a common round -/
def below (b1 r1 e1 b2 r2 e2 : Int) : Bool := decide (r1 * e2 ≤ r2 * e1) && (List.range (e1 * e2).toNat).all fun t => decide (bnd b1 r1 e1 t ≤ bnd b2 r2 e2 t)
theorem all_range {n : Nat} {p : Nat → Bool} : (List.range n).all p = true ↔ ∀ i, i < n → p i = true := by
  rw [List.all_eq_true]
  exact ⟨fun h i hi => h i (List.mem_range.mpr hi), fun h i hi => h i (List.mem_range.mp hi)⟩
section
variable {b1 r1 e1 b2 r2 e2 : Int}
theorem below_iff (h1 : 0 < e1) (h2 : 0 < e2) : below b1 r1 e1 b2 r2 e2 = true ↔ r1 * e2 ≤ r2 * e1 ∧ ∀ t : Int, 0 ≤ t → t < e1 * e2 → bnd b1 r1 e1 t ≤ bnd b2 r2 e2 t := by
  unfold below
  rw [Bool.and_eq_true, decide_eq_true_iff, all_range]
  refine and_congr_right fun _ => ⟨fun h t h0 ht => ?_, fun h i hi => ?_⟩
  · have := of_decide_eq_true (h t.toNat (by omega))
    rwa [Int.toNat_of_nonneg h0] at this
  · exact decide_eq_true (h i (by omega) (by omega))
theorem atMost_iff (h1 : 0 < e1) (h2 : 0 < e2) (g2 : 0 ≤ r2) : atMost b1 r1 e1 b2 r2 e2 = true ↔ r1 * e2 ≤ r2 * e1 ∧ ∀ t : Int, 0 ≤ t → t < e1 * e2 → bnd b1 r1 e1 t ≤ bnd b2 r2 e2 t := by
  unfold atMost
  rw [Bool.and_eq_true, decide_eq_true_iff, all_range]
  refine and_congr_right fun _ => ⟨fun h t h0 ht => ?_, fun h i hi => ?_⟩
  · have q0 : 0 ≤ t / e1 := Int.ediv_nonneg h0 (by omega)
    have q1 : t / e1 < e2 := Int.ediv_lt_of_lt_mul h1 (by rw [Int.mul_comm]; exact ht)
    have := of_decide_eq_true (h (t / e1).toNat (by omega))
    rw [Int.toNat_of_nonneg q0, bnd_floor h1] at this
    exact Int.le_trans this (bnd_mono g2 h2 (Int.mul_ediv_self_le (by omega)))
  · have hi' : (i : Int) < e2 := by omega
    refine decide_eq_true (h _ (Int.mul_nonneg (by omega) (by omega)) ?_)
    exact Int.mul_lt_mul_of_pos_left hi' h1
theorem atMost_eq (h1 : 0 < e1) (h2 : 0 < e2) (g2 : 0 ≤ r2) : atMost b1 r1 e1 b2 r2 e2 = below b1 r1 e1 b2 r2 e2 :=
  Bool.eq_iff_iff.mpr ((atMost_iff h1 h2 g2).trans (below_iff h1 h2).symm)
theorem bnd_zero {b r e : Int} : bnd b r e 0 = b := by
  unfold bnd
  simp
theorem bnd_self {b r e : Int} (h : 0 < e) : bnd b r e e = b + r := by
  unfold bnd
  rw [Int.ediv_self (by omega)]
  omega
theorem bnd_small {b r e t : Int} (h0 : 0 ≤ t) (h : t < e) : bnd b r e t = b := by
  unfold bnd
  rw [Int.ediv_eq_zero_of_lt h0 h]
  simp
theorem le_of_both (h1 : 0 < e1) (h2 : 0 < e2) (g1 : 0 < r1) (h : ∀ t : Int, 0 ≤ t → t < e1 * e2 → bnd b1 r1 e1 t = bnd b2 r2 e2 t) : e2 ≤ e1 := by
  by_cases c : e1 < e2
  · have k : e1 < e1 * e2 := by
      have := Int.mul_lt_mul_of_pos_left (show (1 : Int) < e2 by omega) h1
      omega
    have q := h e1 (by omega) k
    have q0 := h 0 (by omega) (by omega)
    rw [bnd_self h1, bnd_small (by omega) c] at q
    rw [bnd_zero, bnd_zero] at q0
    omega
  · omega
theorem both_iff (h1 : 0 < e1) (h2 : 0 < e2) (g1 : 0 < r1) (g2 : 0 < r2) : (below b1 r1 e1 b2 r2 e2 && below b2 r2 e2 b1 r1 e1) = decide (b1 = b2 ∧ r1 = r2 ∧ e1 = e2) := by
  refine Bool.eq_iff_iff.mpr ?_
  rw [Bool.and_eq_true, below_iff h1 h2, below_iff h2 h1, decide_eq_true_iff]
  constructor
  · rintro ⟨⟨p, h⟩, q, k⟩
    have hk : ∀ t : Int, 0 ≤ t → t < e1 * e2 → bnd b1 r1 e1 t = bnd b2 r2 e2 t := fun t t0 t1 => Int.le_antisymm (h t t0 t1) (k t t0 (by rw [Int.mul_comm]; exact t1))
    have u := le_of_both h1 h2 g1 hk
    have v := le_of_both h2 h1 g2 fun t t0 t1 => (hk t t0 (by rw [Int.mul_comm]; exact t1)).symm
    have e : e1 = e2 := by omega
    subst e
    have z := hk 0 (by omega) (Int.mul_pos h1 h1)
    rw [bnd_zero, bnd_zero] at z
    exact ⟨z, Int.eq_of_mul_eq_mul_right (by omega) (Int.le_antisymm p q), rfl⟩
  · rintro ⟨rfl, rfl, rfl⟩
    exact ⟨⟨Int.le_refl _, fun _ _ _ => Int.le_refl _⟩, Int.le_refl _, fun _ _ _ => Int.le_refl _⟩
theorem far (h1 : 0 < e1) (h2 : 0 < e2) (h : below b1 r1 e1 b2 r2 e2 = true) {t : Int} (t0 : 0 ≤ t) : bnd b1 r1 e1 t ≤ bnd b2 r2 e2 t := by
  obtain ⟨p, k⟩ := (below_iff h1 h2).mp h
  have hp : 0 < e1 * e2 := Int.mul_pos h1 h2
  have d := Int.emod_add_mul_ediv t (e1 * e2)
  have s0 := Int.emod_nonneg t (show e1 * e2 ≠ 0 by omega)
  have s1 := Int.emod_lt_of_pos t hp
  have q0 : 0 ≤ t / (e1 * e2) := Int.ediv_nonneg t0 (by omega)
  have base := k _ s0 s1
  generalize t % (e1 * e2) = s at d s0 s1 base
  generalize t / (e1 * e2) = q at d q0
  have a1 : t / e1 = s / e1 + e2 * q := by
    rw [← d, Int.mul_assoc, Int.add_mul_ediv_left _ _ (by omega)]
  have a2 : t / e2 = s / e2 + e1 * q := by
    rw [← d, Int.mul_comm e1 e2, Int.mul_assoc, Int.add_mul_ediv_left _ _ (by omega)]
  unfold bnd at base ⊢
  rw [a1, a2, Int.mul_add, Int.mul_add, ← Int.mul_assoc, ← Int.mul_assoc]
  have w := Int.mul_le_mul_of_nonneg_right p q0
  omega
end
/-- the first moment at which so many bits are let -/
def early (b r e n : Int) : Int := e * (if 0 < -((b - n) / r) then -((b - n) / r) else 0)
theorem early_lets {b r e n : Int} (hr : 0 < r) (he : 0 < e) : n ≤ bnd b r e (early b r e n) := by
  unfold early bnd
  rw [Int.mul_ediv_cancel_left _ (by omega)]
  have d := Int.emod_add_mul_ediv (b - n) r
  have s0 := Int.emod_nonneg (b - n) (show r ≠ 0 by omega)
  generalize (b - n) / r = q at d
  generalize (b - n) % r = s at d s0
  split
  · rw [Int.mul_neg]
    omega
  · rename_i h
    have : 0 ≤ r * q := Int.mul_nonneg (by omega) (by omega)
    omega
theorem early_least {b r e n t : Int} (hr : 0 < r) (he : 0 < e) (t0 : 0 ≤ t) (h : n ≤ bnd b r e t) : early b r e n ≤ t := by
  unfold bnd at h
  unfold early
  have q0 : 0 ≤ t / e := Int.ediv_nonneg t0 (by omega)
  have le : (if 0 < -((b - n) / r) then -((b - n) / r) else 0) ≤ t / e := by
    split
    · have k : -(t / e) ≤ (b - n) / r := (Int.le_ediv_iff_mul_le hr).mpr (by
        rw [Int.neg_mul, Int.mul_comm (t / e) r]
        omega)
      omega
    · exact q0
  have := Int.mul_le_mul_of_nonneg_left le (show 0 ≤ e by omega)
  exact Int.le_trans this (Int.mul_ediv_self_le (by omega))
theorem early_anti {b1 r1 e1 b2 r2 e2 n : Int} (h1 : 0 < e1) (h2 : 0 < e2) (g1 : 0 < r1) (g2 : 0 < r2) (h : below b1 r1 e1 b2 r2 e2 = true) : early b2 r2 e2 n ≤ early b1 r1 e1 n := by
  have t0 : 0 ≤ early b1 r1 e1 n := by
    unfold early
    exact Int.mul_nonneg (by omega) (by split <;> omega)
  exact early_least g2 h2 t0 (Int.le_trans (early_lets g1 h1) (far h1 h2 h t0))
end Bk
open L2 CT
local macro_rules | `(tactic| walk_at "num") => `(tactic| (first
  | assumption
  | omega
  | exact Or.inl ⟨by omega, by omega⟩
  | exact Or.inr ⟨by omega, by omega⟩
  | exact ⟨by omega, by omega⟩
  | exact ⟨by omega, by omega, by omega⟩
  | (show (0 : Int) < _; omega)
  | exact divW (by omega) (by omega)
  | exact divV (by omega) (by omega) (by omega)
  | exact mulI (by omega) (by omega) (by omega) (by omega)
  | (show _ ∨ _; first | exact Or.inl ⟨by omega, by omega⟩ | exact Or.inr ⟨by omega, by omega⟩)
  | (show _ ∧ _; exact ⟨by omega, by omega⟩)
  | (show _ ∧ _; exact ⟨by omega, by omega, by omega⟩)))
local macro_rules | `(tactic| walk_at "bt") => `(tactic| (first
  | assumption
  | ((apply Bt.neg); (focus (walk_at "bt")))
  | ((apply Bt.mul); (focus (walk_at "bt")); (focus (walk_at "bt")))
  | ((apply Bt.add); (focus (walk_at "bt")); (focus (walk_at "bt")))
  | ((apply Bt.sub); (focus (walk_at "bt")); (focus (walk_at "bt")))
  | ((apply Bt.abs); (focus (walk_at "bt")))
  | ((apply Bt.div); (focus (walk_at "bt")); (focus (first | assumption | omega)))
  | exact Bt.of 200 (by omega) (by omega)))
local macro_rules | `(tactic| walk_at "numb") => `(tactic| (first
  | assumption
  | exact Bt.mulW (by walk_at "bt") (by walk_at "bt") (by decide)
  | exact Bt.divW (by first | assumption | omega) (by walk_at "bt") (by decide)))
local macro_rules | `(tactic| walk_at "hp") => `(tactic| (first
  | assumption
  | exact upd_same
  | ((apply same_at); (focus assumption); (focus (walk_at "hp")))
  | ((apply kp_at); (focus assumption); (focus (first | assumption | (walk_at "ne"))); (focus (walk_at "hp")))
  | ((apply xt_at); (focus assumption); (focus (walk_at "hp")); (focus (intro _ z; cases z)))
  | ((apply kx_at); (focus assumption); (focus (first | assumption | (walk_at "ne"))); (focus (walk_at "hp")); (focus (intro _ z; cases z)))
  | ((apply upd_keep); (focus assumption); (focus (walk_at "hp")))
  | ((apply upd_at); (focus assumption); (focus (walk_at "hp")))))
local macro_rules | `(tactic| walk_at "sq") => `(tactic| (first
  | assumption
  | ((apply SqL.of); (focus (walk_at "hp")))
  | ((apply SqT.of); (focus (walk_at "hp")))))
local macro_rules | `(tactic| walk_at "lk") => `(tactic| (first
  | exact lk_here
  | exact lk_nil
  | ((apply lk_skip); (focus (decide +kernel)); (focus (walk_at "lk")))
  | ((apply lk_no); (focus (decide +kernel)); (focus (walk_at "lk")))))
local macro_rules | `(tactic| walk_at "put") => `(tactic| (first
  | exact put_nil
  | exact put_here
  | ((apply put_skip); (focus (decide +kernel)); (focus (walk_at "put")))))
local macro_rules | `(tactic| walk_at "go") => `(tactic| repeat (first
  | with_reducible refine go_seq ?_
  | with_reducible refine go_asg ?_
  | ((with_reducible apply go_name); (focus (first | (dsimp only [List.set, Int.reduceToNat]; done) | (dsimp only [List.set, Int.reduceToNat]; exact rfl))))
  | with_reducible refine go_op ?_
  | ((with_reducible apply go_var); (focus (exact rfl)))
  | with_reducible refine go_c ?_
  | with_reducible refine go_cons ?_
  | with_reducible refine go_nil ?_
  | with_reducible refine go_call ?_
  | with_reducible refine go_cbLst ?_
  | with_reducible refine go_cbLen ?_
  | with_reducible refine go_cbInt ?_
  | with_reducible refine go_cbBool ?_
  | with_reducible refine go_cbAbs ?_
  | with_reducible refine go_cbMax ?_
  | with_reducible refine go_cbMin ?_
  | with_reducible refine go_cb ?_
  | with_reducible refine go_int ?_
  | with_reducible refine go_intb ?_
  | with_reducible refine go_booli ?_
  | with_reducible refine go_boolb ?_
  | with_reducible refine go_abs ?_
  | with_reducible refine go_max ?_
  | with_reducible refine go_min ?_
  | with_reducible refine go_test ?_
  | with_reducible refine go_k ?_
  | with_reducible refine go_ifS ?_
  | with_reducible refine iteT ?_
  | with_reducible refine iteF ?_
  | with_reducible refine go_nT ?_
  | with_reducible refine go_nF ?_
  | with_reducible refine go_ret ?_
  | with_reducible refine go_gcd ?_
  | with_reducible refine go_i0 ?_
  | ((with_reducible apply go_pow); (focus (walk_at "num")); (focus (first | (dsimp only [Int.reduceToNat, Int.reducePow]; done) | (dsimp only [Int.reduceToNat, Int.reducePow]; exact rfl))))
  | ((with_reducible refine go_i ?_ ?_); (focus (walk_at "num")))
  | with_reducible refine go_un ?_
  | with_reducible refine go_u ?_
  | with_reducible refine go_B ?_
  | with_reducible refine go_and ?_
  | with_reducible refine go_or ?_
  | with_reducible refine go_not ?_
  | with_reducible refine go_andV ?_
  | with_reducible refine go_orV ?_
  | with_reducible refine go_notV ?_
  | with_reducible refine go_if ?_
  | with_reducible refine go_next ?_
  | with_reducible refine go_retN ?_
  | with_reducible refine go_drop ?_
  | with_reducible refine go_lst ?_
  | with_reducible refine go_tup ?_
  | ((with_reducible refine newL_raw ?_ ?_); (focus (exact Nat.le_of_ble_eq_true rfl)))
  | ((with_reducible refine newT_raw ?_ ?_); (focus (exact Nat.le_of_ble_eq_true rfl)))
  | with_reducible refine go_fld ?_
  | ((with_reducible apply go_fldx); (focus (walk_at "hp")); (focus assumption); (focus assumption); (focus (walk_at "lk")))
  | with_reducible refine go_cval ?_
  | ((with_reducible apply go_cvalx); (focus assumption); (focus assumption))
  | with_reducible refine go_sfld ?_
  | ((with_reducible apply go_sfldx); (focus (walk_at "hp")); (focus assumption); (focus assumption); (focus (walk_at "put")); (focus (exact Nat.le_of_ble_eq_true rfl)))
  | with_reducible refine go_par ?_
  | ((with_reducible apply go_par2); (focus (first | (dsimp only [List.set, Int.reduceToNat]; done) | (dsimp only [List.set, Int.reduceToNat]; exact rfl))))
  | with_reducible refine go_sub ?_
  | ((with_reducible apply go_ixl); (focus (walk_at "sq")); (focus (exact rfl)))
  | ((with_reducible apply go_ixt); (focus (walk_at "sq")); (focus (exact rfl)))
  | ((with_reducible refine go_eq ?_ ?_); (focus (exact rfl)))
  | ((with_reducible refine go_ne ?_ ?_); (focus (exact rfl)))
  | with_reducible refine go_chain ?_
  | with_reducible refine go_yes ?_
  | with_reducible refine go_mko ?_
  | with_reducible refine go_ost ?_
  | with_reducible refine go_lc ?_
  | with_reducible refine go_make ?_
  | with_reducible refine go_maked ?_
  | with_reducible refine go_bma ?_
  | ((with_reducible apply go_bmax); (focus (walk_at "sq")))
  | with_reducible refine go_dnew ?_
  | with_reducible refine go_meth ?_
  | ((with_reducible apply go_methx); (focus (walk_at "hp")); (focus (walk_at "lk")))
  | ((with_reducible apply go_gtup); (focus (walk_at "sq")); (focus (exact rfl)))
  | with_reducible refine go_gcons ?_
  | with_reducible refine go_gnil ?_
  | with_reducible refine go_for ?_
  | with_reducible refine go_rng1 ?_
  | ((with_reducible refine go_rng1x ?_ ?_); (focus (exact ⟨by omega, by omega⟩)))
  | with_reducible refine go_rng2 ?_
  | ((with_reducible refine go_rng2x ?_ ?_); (focus (exact ⟨⟨by omega, by omega⟩, by omega, by omega⟩)))
  | with_reducible refine go_listI ?_
  | ((with_reducible apply go_listIx); (focus (walk_at "sq")))
  | with_reducible refine go_tupI ?_
  | ((with_reducible apply go_tupIx); (focus (walk_at "sq")))
  | with_reducible refine go_sl ?_
  | with_reducible refine go_part ?_
  | with_reducible refine go_i1 ?_
  | with_reducible refine go_nopart ?_
  | ((with_reducible apply go_rsl); (focus (walk_at "sq")))
  | ((with_reducible apply go_lstof); (focus (first | assumption | (apply Or.inl; (focus (walk_at "sq"))) | (apply Or.inr; (focus (walk_at "sq"))))))
  | ((with_reducible apply go_len); (focus (first | assumption | (apply Or.inl; (focus (walk_at "sq"))) | (apply Or.inr; (focus (walk_at "sq"))))))
  | ((with_reducible apply go_setL); (focus (walk_at "hp")); (focus (exact rfl)); (focus (first | (dsimp only [List.set, Int.reduceToNat]; done) | (dsimp only [List.set, Int.reduceToNat]; exact rfl))))))
local macro_rules | `(tactic| walk_at "pen") => `(tactic| (first
  | assumption
  | ((apply pn_sm); (focus assumption); (focus (walk_at "pen")))
  | ((apply pn_xt); (focus assumption); (focus (walk_at "pen")))
  | ((apply pn_kp); (focus assumption); (focus (walk_at "pen")); (focus (walk_at "ne")); (focus (walk_at "nc")))
  | ((apply pn_nw); (focus assumption); (focus (walk_at "pen")))))
local macro_rules | `(tactic| walk_at "kp") => `(tactic| (first
  | exact Kp.refl _ _
  | assumption
  | ((apply kp_sm); (focus assumption); (focus (walk_at "kp")))
  | ((apply kp_kp); (focus assumption); (focus (walk_at "kp")))
  | ((apply kp_ot); (focus assumption); (focus (walk_at "kp")); (focus (walk_at "no")))
  | exact Kp.put
  | ((apply kp_nw); (focus assumption); (focus (walk_at "kp")))))
local macro_rules | `(tactic| walk_at "kx") => `(tactic| (first
  | exact Kx.refl _ _
  | assumption
  | ((apply kx_sm); (focus assumption); (focus (walk_at "kx")))
  | ((apply kx_kp); (focus assumption); (focus (walk_at "kx")))
  | ((apply kx_kx); (focus assumption); (focus (walk_at "kx")))
  | ((apply kx_xt); (focus assumption); (focus (walk_at "kx")))
  | ((apply kx_ot); (focus assumption); (focus (walk_at "kx")); (focus (walk_at "nt")))))
local macro_rules | `(tactic| walk_at "sm") => `(tactic| (first
  | exact Same.refl _
  | assumption
  | ((apply sm_sm); (focus assumption); (focus (walk_at "sm")))
  | ((apply sm_ot); (focus assumption); (focus (walk_at "sm")); (focus (walk_at "no")))
  | ((apply sm_nw); (focus assumption); (focus (walk_at "sm")))))
local macro_rules | `(tactic| walk_at "tb") => `(tactic| (first
  | assumption
  | ((apply tabs_sm); (focus assumption); (focus (walk_at "tb")))
  | ((apply tabs_pn); (focus assumption); (focus (walk_at "pen")); (focus (walk_at "tb")))
  | ((apply tabs_ls); (focus assumption); (focus (walk_at "hp")); (focus (walk_at "tb")))))
local macro_rules | `(tactic| walk_at "od") => `(tactic| (first
  | assumption
  | ((apply odd_sm); (focus assumption); (focus (walk_at "od")))
  | ((apply odd_xt); (focus assumption); (focus (walk_at "od")))
  | ((apply odd_kp); (focus assumption); (focus (walk_at "od")); (focus (first | assumption | ((apply odd_new); (focus assumption); (focus (walk_at "od"))))))))
local macro_rules | `(tactic| walk_at "nt") => `(tactic| (first
  | assumption
  | ((apply nt_no); (focus assumption))
  | ((apply nt_sm); (focus assumption); (focus (walk_at "nt")))
  | ((apply nt_xt); (focus assumption); (focus (walk_at "nt")))
  | ((apply nt_pn); (focus assumption); (focus (walk_at "pen")); (focus (walk_at "nt")))
  | ((apply nt_kx); (focus assumption); (focus (walk_at "pen")); (focus (walk_at "nt")))
  | ((apply nt_kp); (focus assumption); (focus (walk_at "hp")); (focus (walk_at "nt")))))
local macro_rules | `(tactic| walk_at "ne") => `(tactic| (first
  | assumption
  | ((apply Ne.symm); (focus assumption))
  | ((apply pn_ne_new); (focus assumption); (focus (walk_at "pen")))
  | ((apply pn_ne_o); (focus assumption); (focus (intro _ z; cases z)); (focus (walk_at "pen")))
  | ((apply ne_old); (focus assumption); (focus (walk_at "hp")))
  | ((apply Ne.symm); (apply ne_old); (focus assumption); (focus (walk_at "hp")))
  | ((apply pn_ne_lst); (focus assumption); (focus (intro _ _ _ z; cases z)); (focus (walk_at "pen")))))
local macro_rules | `(tactic| walk_at "nc") => `(tactic| (first
  | assumption
  | ((apply pn_ne_newc); (focus assumption); (focus (walk_at "pen")))))
local macro_rules | `(tactic| walk_at "no") => `(tactic| (first
  | assumption
  | ((apply no_sm); (focus assumption); (focus (walk_at "no")))
  | ((apply no_pn); (focus assumption); (focus (walk_at "pen")); (focus (walk_at "no")))
  | ((apply no_kp); (focus assumption); (focus assumption); (focus (walk_at "no")))))
local macro_rules | `(tactic| walk_at "xt") => `(tactic| (first
  | exact LamX.ExtN.refl _
  | assumption
  | exact LamX.ExtN.of (by assumption)
  | ((apply xt_sm); (focus assumption); (focus (walk_at "xt")))
  | ((apply xt_xt); (focus assumption); (focus (walk_at "xt")))
  | ((apply xt_ot'); (focus assumption); (focus (walk_at "xt")); (focus (walk_at "nt")))))
local macro_rules | `(tactic| walk_at "gn") => `(tactic| repeat (first
  | with_reducible refine go_seq ?_
  | with_reducible refine go_asg ?_
  | ((with_reducible apply go_name); (focus (first | (dsimp only [List.set, Int.reduceToNat]; done) | (dsimp only [List.set, Int.reduceToNat]; exact rfl))))
  | with_reducible refine go_op ?_
  | ((with_reducible apply go_var); (focus (exact rfl)))
  | with_reducible refine go_c ?_
  | with_reducible refine go_cons ?_
  | with_reducible refine go_nil ?_
  | with_reducible refine go_call ?_
  | with_reducible refine go_cbLst ?_
  | with_reducible refine go_cbLen ?_
  | with_reducible refine go_cbInt ?_
  | with_reducible refine go_cbBool ?_
  | with_reducible refine go_cbAbs ?_
  | with_reducible refine go_cbMax ?_
  | with_reducible refine go_cbMin ?_
  | with_reducible refine go_cb ?_
  | with_reducible refine go_int ?_
  | with_reducible refine go_intb ?_
  | with_reducible refine go_booli ?_
  | with_reducible refine go_boolb ?_
  | with_reducible refine go_abs ?_
  | with_reducible refine go_max ?_
  | with_reducible refine go_min ?_
  | with_reducible refine go_test ?_
  | with_reducible refine go_k ?_
  | with_reducible refine go_ifS ?_
  | with_reducible refine iteT ?_
  | with_reducible refine iteF ?_
  | with_reducible refine go_nT ?_
  | with_reducible refine go_nF ?_
  | with_reducible refine go_ret ?_
  | with_reducible refine go_gcd ?_
  | with_reducible refine go_i0 ?_
  | ((with_reducible apply go_pow); (focus (walk_at "num")); (focus (first | (dsimp only [Int.reduceToNat, Int.reducePow]; done) | (dsimp only [Int.reduceToNat, Int.reducePow]; exact rfl))))
  | ((with_reducible refine go_i ?_ ?_); (focus (walk_at "num")))
  | with_reducible refine go_un ?_
  | with_reducible refine go_u ?_
  | with_reducible refine go_B ?_
  | with_reducible refine go_and ?_
  | with_reducible refine go_or ?_
  | with_reducible refine go_not ?_
  | with_reducible refine go_andV ?_
  | with_reducible refine go_orV ?_
  | with_reducible refine go_notV ?_
  | with_reducible refine go_if ?_
  | with_reducible refine go_next ?_
  | with_reducible refine go_retN ?_
  | with_reducible refine go_drop ?_
  | with_reducible refine go_lst ?_
  | with_reducible refine go_tup ?_
  | with_reducible refine go_fld ?_
  | ((with_reducible apply go_fldx); (focus (walk_at "hp")); (focus assumption); (focus assumption); (focus (walk_at "lk")))
  | with_reducible refine go_cval ?_
  | ((with_reducible apply go_cvalx); (focus assumption); (focus assumption))
  | with_reducible refine go_sfld ?_
  | ((with_reducible apply go_sfldx); (focus (walk_at "hp")); (focus assumption); (focus assumption); (focus (walk_at "put")); (focus (exact Nat.le_of_ble_eq_true rfl)))
  | with_reducible refine go_par ?_
  | ((with_reducible apply go_par2); (focus (first | (dsimp only [List.set, Int.reduceToNat]; done) | (dsimp only [List.set, Int.reduceToNat]; exact rfl))))
  | with_reducible refine go_sub ?_
  | ((with_reducible apply go_ixl); (focus (walk_at "sq")); (focus (exact rfl)))
  | ((with_reducible apply go_ixt); (focus (walk_at "sq")); (focus (exact rfl)))
  | ((with_reducible refine go_eq ?_ ?_); (focus (exact rfl)))
  | ((with_reducible refine go_ne ?_ ?_); (focus (exact rfl)))
  | with_reducible refine go_chain ?_
  | with_reducible refine go_yes ?_
  | with_reducible refine go_mko ?_
  | with_reducible refine go_ost ?_
  | with_reducible refine go_lc ?_
  | with_reducible refine go_make ?_
  | with_reducible refine go_maked ?_
  | with_reducible refine go_bma ?_
  | ((with_reducible apply go_bmax); (focus (walk_at "sq")))
  | with_reducible refine go_meth ?_
  | ((with_reducible apply go_methx); (focus (walk_at "hp")); (focus (walk_at "lk")))
  | ((with_reducible apply go_gtup); (focus (walk_at "sq")); (focus (exact rfl)))
  | with_reducible refine go_gcons ?_
  | with_reducible refine go_gnil ?_
  | with_reducible refine go_for ?_
  | with_reducible refine go_rng1 ?_
  | ((with_reducible refine go_rng1x ?_ ?_); (focus (exact ⟨by omega, by omega⟩)))
  | with_reducible refine go_rng2 ?_
  | ((with_reducible refine go_rng2x ?_ ?_); (focus (exact ⟨⟨by omega, by omega⟩, by omega, by omega⟩)))
  | with_reducible refine go_listI ?_
  | ((with_reducible apply go_listIx); (focus (walk_at "sq")))
  | with_reducible refine go_tupI ?_
  | ((with_reducible apply go_tupIx); (focus (walk_at "sq")))
  | with_reducible refine go_sl ?_
  | with_reducible refine go_part ?_
  | with_reducible refine go_i1 ?_
  | with_reducible refine go_nopart ?_
  | ((with_reducible apply go_len); (focus (first | assumption | (apply Or.inl; (focus (walk_at "sq"))) | (apply Or.inr; (focus (walk_at "sq"))))))
  | ((with_reducible apply go_setL); (focus (walk_at "hp")); (focus (exact rfl)); (focus (first | (dsimp only [List.set, Int.reduceToNat]; done) | (dsimp only [List.set, Int.reduceToNat]; exact rfl))))))
local macro_rules | `(tactic| walk_at "sz") => `(tactic| (first
  | exact Nat.le_of_ble_eq_true rfl
  | omega
  | ((simp only [List.length_append, List.length_cons, List.length_nil, List.length_map]); omega)))
local macro_rules | `(tactic| walk_at "ls") => `(tactic| (first
  | (dsimp only [Int.reduceToNat, List.replicate, List.flatten_cons, List.flatten_nil, List.cons_append, List.nil_append]; done)
  | (dsimp only [Int.reduceToNat, List.replicate, List.flatten_cons, List.flatten_nil, List.cons_append, List.nil_append]; exact rfl)
  | exact rfl))
local macro_rules | `(tactic| walk_at "gm1") => `(tactic| (first
  | with_reducible refine go_seq ?_
  | with_reducible refine go_asg ?_
  | ((with_reducible apply go_name); (focus (first | (dsimp only [List.set, Int.reduceToNat]; done) | (dsimp only [List.set, Int.reduceToNat]; exact rfl))))
  | with_reducible refine go_op ?_
  | ((with_reducible apply go_var); (focus (exact rfl)))
  | with_reducible refine go_c ?_
  | with_reducible refine go_cons ?_
  | with_reducible refine go_nil ?_
  | with_reducible refine go_call ?_
  | with_reducible refine go_calld ?_
  | with_reducible refine go_cbLst ?_
  | with_reducible refine go_cbLen ?_
  | with_reducible refine go_cbInt ?_
  | with_reducible refine go_cbBool ?_
  | with_reducible refine go_cbAbs ?_
  | with_reducible refine go_cbMax ?_
  | with_reducible refine go_cbMin ?_
  | with_reducible refine go_cb ?_
  | with_reducible refine go_int ?_
  | with_reducible refine go_intb ?_
  | with_reducible refine go_booli ?_
  | with_reducible refine go_boolb ?_
  | with_reducible refine go_abs ?_
  | with_reducible refine go_max ?_
  | with_reducible refine go_min ?_
  | with_reducible refine go_test ?_
  | with_reducible refine go_k ?_
  | with_reducible refine go_ifS ?_
  | with_reducible refine iteT ?_
  | with_reducible refine iteF ?_
  | with_reducible refine go_nT ?_
  | with_reducible refine go_nF ?_
  | with_reducible refine go_nnF ?_
  | with_reducible refine go_nnT ?_
  | with_reducible refine scal_bl ?_
  | with_reducible refine scal_nbl ?_
  | with_reducible refine go_ret ?_
  | with_reducible refine go_gcd ?_
  | with_reducible refine go_i0 ?_
  | ((with_reducible apply go_pow); (focus (walk_at "num")); (focus (first | (dsimp only [Int.reduceToNat, Int.reducePow]; done) | (dsimp only [Int.reduceToNat, Int.reducePow]; exact rfl))))
  | ((with_reducible refine go_i ?_ ?_); (focus (walk_at "num")))
  | with_reducible refine go_un ?_
  | with_reducible refine go_u ?_
  | with_reducible refine go_B ?_
  | with_reducible refine go_and ?_
  | with_reducible refine go_or ?_
  | with_reducible refine go_not ?_
  | with_reducible refine go_andV ?_
  | with_reducible refine go_orV ?_
  | with_reducible refine go_notV ?_
  | with_reducible refine go_if ?_
  | with_reducible refine go_next ?_
  | with_reducible refine go_retN ?_
  | with_reducible refine go_drop ?_
  | with_reducible refine go_lst ?_
  | with_reducible refine go_tup ?_
  | with_reducible refine go_fld ?_
  | ((with_reducible apply go_fldx); (focus (walk_at "hp")); (focus assumption); (focus assumption); (focus (walk_at "lk")))
  | with_reducible refine go_cval ?_
  | ((with_reducible apply go_cvalx); (focus assumption); (focus assumption))
  | with_reducible refine go_sfld ?_
  | ((with_reducible apply go_sfldx); (focus (walk_at "hp")); (focus assumption); (focus assumption); (focus (walk_at "put")); (focus (exact Nat.le_of_ble_eq_true rfl)))
  | with_reducible refine go_par ?_
  | ((with_reducible apply go_par2); (focus (first | (dsimp only [List.set, Int.reduceToNat]; done) | (dsimp only [List.set, Int.reduceToNat]; exact rfl))))
  | with_reducible refine go_par3 ?_
  | ((with_reducible apply go_par3x); (focus (first | (dsimp only [List.set, Int.reduceToNat]; done) | (dsimp only [List.set, Int.reduceToNat]; exact rfl))))
  | with_reducible refine go_sub ?_
  | ((with_reducible apply go_ixl); (focus (walk_at "sq")); (focus (exact rfl)))
  | ((with_reducible apply go_ixt); (focus (walk_at "sq")); (focus (exact rfl)))
  | with_reducible refine go_m0 ?_
  | with_reducible refine go_s0 ?_
  | with_reducible refine go_m1 ?_
  | with_reducible refine go_m1s ?_
  | with_reducible refine go_cm ?_
  | with_reducible refine go_cmK ?_
  | with_reducible refine go_sm ?_
  | with_reducible refine go_smK ?_
  | with_reducible refine go_mkS0 ?_
  | with_reducible refine go_lstRg ?_
  | ((with_reducible refine go_cmx ?_ ?_); (focus (exact rfl)))
  | ((with_reducible apply go_mkL); (focus (exact rfl)))
  | with_reducible refine go_strI ?_
  | with_reducible refine go_strIx ?_
  | with_reducible refine go_enumI ?_
  | ((with_reducible apply go_enumIx); (focus (walk_at "sq")))
  | with_reducible refine go_eqI ?_
  | with_reducible refine go_jsc ?_
  | with_reducible refine go_jsn ?_
  | with_reducible refine go_fmt ?_
  | with_reducible refine repr_bl ?_
  | with_reducible refine go_mkK ?_
  | ((with_reducible apply go_aug); (focus (exact rfl)))
  | with_reducible refine go_methK ?_
  | ((with_reducible apply methK_x); (focus (walk_at "hp")); (focus (walk_at "lk")))
  | with_reducible refine go_kS ?_
  | ((with_reducible apply mkK_of); (focus (exact rfl)); (focus (exact rfl)); (focus (exact fun _ => rfl)))
  | ((with_reducible apply go_own1); (focus (walk_at "hp")))
  | ((with_reducible apply go_ownA); (focus (walk_at "hp")))
  | ((with_reducible apply go_ownB); (focus (walk_at "hp")))
  | ((with_reducible apply go_ownS); (focus (walk_at "hp")))
  | ((with_reducible apply go_ownN); (focus (walk_at "hp")))
  | with_reducible refine isN_ref ?_
  | with_reducible refine isN_non ?_
  | with_reducible refine isN_int ?_
  | with_reducible refine isN_str ?_
  | with_reducible refine isN_bl ?_
  | with_reducible refine notN_ref ?_
  | with_reducible refine notN_non ?_
  | with_reducible refine notN_int ?_
  | with_reducible refine notN_str ?_
  | with_reducible refine notN_bl ?_
  | with_reducible refine go_neI ?_
  | ((with_reducible refine go_eq ?_ ?_); (focus (exact rfl)))
  | ((with_reducible refine go_ne ?_ ?_); (focus (exact rfl)))
  | with_reducible refine go_chain ?_
  | with_reducible refine go_yes ?_
  | with_reducible refine go_mko ?_
  | with_reducible refine go_ost ?_
  | with_reducible refine go_lc ?_
  | with_reducible refine go_make ?_
  | with_reducible refine go_maked ?_
  | with_reducible refine go_mkS ?_
  | with_reducible refine go_prp ?_
  | ((with_reducible apply go_prpx); (focus (walk_at "hp")))
  | with_reducible refine go_mkT ?_
  | ((with_reducible apply go_mkTx); (focus (first | assumption | (apply Or.inl; (focus (walk_at "sq"))) | (apply Or.inr; (focus (walk_at "sq"))))))
  | ((with_reducible apply go_mkTL); (focus (exact rfl)))
  | with_reducible refine go_bma ?_
  | ((with_reducible apply go_bmax); (focus (walk_at "sq")))
  | with_reducible refine go_bmp ?_
  | ((with_reducible apply go_bmpx); (focus (walk_at "sq")))
  | with_reducible refine go_meth ?_
  | ((with_reducible apply go_methx); (focus (walk_at "hp")); (focus (walk_at "lk")))
  | ((with_reducible apply go_gtup); (focus (walk_at "sq")); (focus (exact rfl)))
  | ((with_reducible apply go_glst); (focus (walk_at "sq")); (focus (exact rfl)))
  | ((with_reducible refine disp1_gm ?_); (intro _ _ _ _ _))
  | with_reducible refine go_gcons ?_
  | with_reducible refine go_gnil ?_
  | with_reducible refine go_for ?_
  | with_reducible refine go_rng1 ?_
  | ((with_reducible refine go_rng1x ?_ ?_); (focus (exact ⟨by omega, by omega⟩)))
  | with_reducible refine go_rng2 ?_
  | ((with_reducible refine go_rng2x ?_ ?_); (focus (exact ⟨⟨by omega, by omega⟩, by omega, by omega⟩)))
  | with_reducible refine go_listI ?_
  | ((with_reducible apply go_listIx); (focus (walk_at "sq")))
  | with_reducible refine go_tupI ?_
  | ((with_reducible apply go_tupIx); (focus (walk_at "sq")))
  | with_reducible refine go_sl ?_
  | with_reducible refine go_part ?_
  | with_reducible refine go_i1 ?_
  | with_reducible refine go_nopart ?_
  | ((with_reducible apply go_len); (focus (first | assumption | (apply Or.inl; (focus (walk_at "sq"))) | (apply Or.inr; (focus (walk_at "sq"))))))
  | ((with_reducible apply go_setL); (focus (walk_at "hp")); (focus (exact rfl)); (focus (first | (dsimp only [List.set, Int.reduceToNat]; done) | (dsimp only [List.set, Int.reduceToNat]; exact rfl))))
  | ((with_reducible refine newL ?_ (fun _ _ _ _ _ => ?_)); (focus (exact Nat.le_of_ble_eq_true rfl)))
  | ((with_reducible refine newT ?_ (fun _ _ _ _ _ => ?_)); (focus (exact Nat.le_of_ble_eq_true rfl)))
  | ((with_reducible apply draw_gm); (focus (walk_at "pen")); (focus omega); (focus omega); (focus omega); (intro _ _ _ _ _ _))
  | ((with_reducible apply pick_gm); (focus (walk_at "pen")); (focus omega); (focus (walk_at "hp")); (focus (walk_at "ne")); (focus (intro z; cases z)); (focus (exact Nat.le_of_ble_eq_true rfl)); (intro _ _ _ _ _))
  | ((with_reducible apply app_gm); (focus (walk_at "hp")); (focus (walk_at "sz")); (focus (walk_at "ls")); (intro _ _ _))
  | ((with_reducible apply rep_gm); (focus (walk_at "hp")); (focus (decide)); (focus (decide)); (focus (walk_at "sz")); (focus (walk_at "ls")); (intro _ _ _ _ _))
  | ((with_reducible apply cat_gm); (focus (walk_at "hp")); (focus (walk_at "hp")); (focus (walk_at "ls")); (focus (walk_at "sz")); (intro _ _ _ _ _))
  | ((with_reducible apply lstof_gm); (focus (first | assumption | (apply Or.inl; (focus (walk_at "sq"))) | (apply Or.inr; (focus (walk_at "sq"))))); (intro _ _ _ _ _))
  | ((with_reducible apply dnew_gm); (intro _ _ _ _ _))
  | ((with_reducible apply sl_gm); (focus (walk_at "sq")); (intro _ _ _ _ _))
  | ((with_reducible apply pickt_gm); (focus (walk_at "pen")); (focus omega); (focus (walk_at "hp")); (focus (walk_at "ne")); (focus (intro z; cases z)); (focus (exact Nat.le_of_ble_eq_true rfl)); (intro _ _ _ _ _))))
local macro_rules | `(tactic| walk_at "gm") => `(tactic| repeat (walk_at "gm1"))
namespace K50
open PySem PySem.Spec PyProof.Rows L2 CT
open He (ga ma fAd)
def top (i : Nat) : Stmt := PySem.Challenge.pw_creditturns_k50_buckets_made.main.body.getD i (.Pass ⟨0, 0, 0, 0⟩)
abbrev s_is_integer : Stmt := top 13
theorem sc_is_integer : FnScope ["value"] ["value"] (defScope s_is_integer) := ⟨rfl, rfl, rfl, by decide +kernel, rfl, by decide +kernel, by decide +kernel⟩
abbrev s_is_within : Stmt := top 15
theorem sc_is_within : FnScope ["value", "least", "most"] ["value", "least", "most"] (defScope s_is_within) := ⟨rfl, rfl, rfl, by decide +kernel, rfl, by decide +kernel, by decide +kernel⟩
abbrev s_is_length : Stmt := top 28
theorem sc_is_length : FnScope ["value"] ["value"] (defScope s_is_length) := ⟨rfl, rfl, rfl, by decide +kernel, rfl, by decide +kernel, by decide +kernel⟩
abbrev s_divisor_of : Stmt := top 27
theorem sc_divisor_of : FnScope ["numbers", "found", "number"] ["numbers"] (defScope s_divisor_of) := ⟨rfl, rfl, rfl, by decide +kernel, rfl, by decide +kernel, by decide +kernel⟩
abbrev s_least_sums : Stmt := top 18
theorem sc_least_sums : FnScope ["numbers", "shortest", "_", "rows", "lasts", "length", "circles", "first", "rest", "goal"] ["numbers"] (defScope s_least_sums) := ⟨rfl, rfl, rfl, by decide +kernel, rfl, by decide +kernel, by decide +kernel⟩
abbrev s_BadLengths___init__ : Stmt := inClass (top 7) 0
theorem sc_BadLengths___init__ : FnScope ["self", "part"] ["self", "part"] (defScope s_BadLengths___init__) := ⟨rfl, rfl, rfl, by decide +kernel, rfl, by decide +kernel, by decide +kernel⟩
abbrev s_Lengths___init__ : Stmt := inClass (top 26) 1
theorem sc_Lengths___init__ : FnScope ["self", "numbers", "table", "greatest", "number", "row"] ["self", "numbers"] (defScope s_Lengths___init__) := ⟨rfl, rfl, rfl, by decide +kernel, rfl, by decide +kernel, by decide +kernel⟩
abbrev s_Lengths_of : Stmt := inClass (top 26) 2
theorem sc_Lengths_of : FnScope ["cls", "numbers"] ["cls", "numbers"] (defScope s_Lengths_of) := ⟨rfl, rfl, rfl, by decide +kernel, rfl, by decide +kernel, by decide +kernel⟩
abbrev s_check_lengths : Stmt := top 29
theorem sc_check_lengths : FnScope ["lengths"] ["lengths"] (defScope s_check_lengths) := ⟨rfl, rfl, rfl, by decide +kernel, rfl, by decide +kernel, by decide +kernel⟩
abbrev s_Lengths_longest : Stmt := inClass (top 26) 7
theorem sc_Lengths_longest : FnScope ["self"] ["self"] (defScope s_Lengths_longest) := ⟨rfl, rfl, rfl, by decide +kernel, rfl, by decide +kernel, by decide +kernel⟩
abbrev s_BadNumber___init__ : Stmt := inClass (top 8) 0
theorem sc_BadNumber___init__ : FnScope ["self", "value"] ["self", "value"] (defScope s_BadNumber___init__) := ⟨rfl, rfl, rfl, by decide +kernel, rfl, by decide +kernel, by decide +kernel⟩
abbrev s_is_count : Stmt := top 14
theorem sc_is_count : FnScope ["value"] ["value"] (defScope s_is_count) := ⟨rfl, rfl, rfl, by decide +kernel, rfl, by decide +kernel, by decide +kernel⟩
abbrev s_check_count : Stmt := top 16
theorem sc_check_count : FnScope ["value"] ["value"] (defScope s_check_count) := ⟨rfl, rfl, rfl, by decide +kernel, rfl, by decide +kernel, by decide +kernel⟩
abbrev s_Ratio___init__ : Stmt := inClass (top 33) 0
theorem sc_Ratio___init__ : FnScope ["self", "top", "bottom", "shared"] ["self", "top", "bottom"] (defScope s_Ratio___init__) := ⟨rfl, rfl, rfl, by decide +kernel, rfl, by decide +kernel, by decide +kernel⟩
abbrev s_Ratio___eq__ : Stmt := inClass (top 33) 21
theorem sc_Ratio___eq__ : FnScope ["self", "other"] ["self", "other"] (defScope s_Ratio___eq__) := ⟨rfl, rfl, rfl, by decide +kernel, rfl, by decide +kernel, by decide +kernel⟩
abbrev s_BadBucket___init__ : Stmt := inClass (top 6) 0
theorem sc_BadBucket___init__ : FnScope ["self", "part"] ["self", "part"] (defScope s_BadBucket___init__) := ⟨rfl, rfl, rfl, by decide +kernel, rfl, by decide +kernel, by decide +kernel⟩
abbrev s_Bucket___init__ : Stmt := inClass (top 42) 3
theorem sc_Bucket___init__ : FnScope ["self", "burst", "rate", "every"] ["self", "burst", "rate", "every"] (defScope s_Bucket___init__) := ⟨rfl, rfl, rfl, by decide +kernel, rfl, by decide +kernel, by decide +kernel⟩
abbrev s_bound_of : Stmt := top 43
theorem sc_bound_of : FnScope ["bucket", "ticks"] ["bucket", "ticks"] (defScope s_bound_of) := ⟨rfl, rfl, rfl, by decide +kernel, rfl, by decide +kernel, by decide +kernel⟩
abbrev s_Bucket___call__ : Stmt := inClass (top 42) 5
theorem sc_Bucket___call__ : FnScope ["self", "ticks"] ["self", "ticks"] (defScope s_Bucket___call__) := ⟨rfl, rfl, rfl, by decide +kernel, rfl, by decide +kernel, by decide +kernel⟩
abbrev s_Bucket_earliest : Stmt := inClass (top 42) 6
theorem sc_Bucket_earliest : FnScope ["self", "bits"] ["self", "bits"] (defScope s_Bucket_earliest) := ⟨rfl, rfl, rfl, by decide +kernel, rfl, by decide +kernel, by decide +kernel⟩
abbrev s_Bucket_rate_of : Stmt := inClass (top 42) 7
theorem sc_Bucket_rate_of : FnScope ["self"] ["self"] (defScope s_Bucket_rate_of) := ⟨rfl, rfl, rfl, by decide +kernel, rfl, by decide +kernel, by decide +kernel⟩
abbrev s_Bucket_fits : Stmt := inClass (top 42) 8
theorem sc_Bucket_fits : FnScope ["self", "lengths"] ["self", "lengths"] (defScope s_Bucket_fits) := ⟨rfl, rfl, rfl, by decide +kernel, rfl, by decide +kernel, by decide +kernel⟩
abbrev s_Bucket___eq__ : Stmt := inClass (top 42) 15
theorem sc_Bucket___eq__ : FnScope ["self", "other"] ["self", "other"] (defScope s_Bucket___eq__) := ⟨rfl, rfl, rfl, by decide +kernel, rfl, by decide +kernel, by decide +kernel⟩
abbrev s_Bucket___str__ : Stmt := inClass (top 42) 16
theorem sc_Bucket___str__ : FnScope ["self"] ["self"] (defScope s_Bucket___str__) := ⟨rfl, rfl, rfl, by decide +kernel, rfl, by decide +kernel, by decide +kernel⟩
abbrev s__law_pen : Stmt := top 47
theorem sc__law_pen : FnScope ["_law_script"] ["_law_script"] (defScope s__law_pen) := ⟨rfl, rfl, rfl, by decide +kernel, rfl, by decide +kernel, by decide +kernel⟩
abbrev s__law_draw : Stmt := top 48
theorem sc__law_draw : FnScope ["_law_pen_here", "_law_many", "_law_digit", "_law_at", "_law_cell", "_law_great", "_law_mixed"] ["_law_pen_here", "_law_many"] (defScope s__law_draw) := ⟨rfl, rfl, rfl, by decide +kernel, rfl, by decide +kernel, by decide +kernel⟩
abbrev s__law_pick : Stmt := top 49
theorem sc__law_pick : FnScope ["_law_pen_here", "_law_some"] ["_law_pen_here", "_law_some"] (defScope s__law_pick) := ⟨rfl, rfl, rfl, by decide +kernel, rfl, by decide +kernel, by decide +kernel⟩
abbrev s__law_part : Stmt := top 50
theorem sc__law_part : FnScope ["_law_pen_here", "_law_most", "_law_some"] ["_law_pen_here", "_law_most"] (defScope s__law_part) := ⟨rfl, rfl, rfl, by decide +kernel, rfl, by decide +kernel, by decide +kernel⟩
abbrev s__law_is_part : Stmt := top 51
theorem sc__law_is_part : FnScope ["_law_value", "_law_most"] ["_law_value", "_law_most"] (defScope s__law_is_part) := ⟨rfl, rfl, rfl, by decide +kernel, rfl, by decide +kernel, by decide +kernel⟩
abbrev s__law_due : Stmt := top 53
theorem sc__law_due : FnScope ["_law_parts", "_law_value", "_law_most", "_law_word"] ["_law_parts"] (defScope s__law_due) := ⟨rfl, rfl, rfl, by decide +kernel, rfl, by decide +kernel, by decide +kernel⟩
abbrev s__law_numbers_right : Stmt := top 54
theorem sc__law_numbers_right : FnScope ["_law_pen_here", "_law_made", "_law_parts", "_law_burst_so", "_law_rate_so", "_law_every_so", "_law_far", "_law_bits_so", "_law_first"] ["_law_pen_here", "_law_made", "_law_parts"] (defScope s__law_numbers_right) := ⟨rfl, rfl, rfl, by decide +kernel, rfl, by decide +kernel, by decide +kernel⟩
abbrev s__law_others_right : Stmt := top 55
theorem sc__law_others_right : FnScope ["_law_pen_here", "_law_made", "_law_parts", "_law_numbers_so", "_law_heard_here", "_law_other", "_law_bad", "_law_odd"] ["_law_pen_here", "_law_made", "_law_parts"] (defScope s__law_others_right) := ⟨rfl, rfl, rfl, by decide +kernel, rfl, by decide +kernel, by decide +kernel⟩
abbrev s_law : Stmt := top 56
theorem sc_law : FnScope ["_law_script", "_law_pen_here", "_law_lap", "_law_due_here", "_law_heard_here", "_law_made", "_law_bucket_so", "_law_parts", "_law_bits_so"] ["_law_script"] (defScope s_law) := ⟨rfl, rfl, rfl, by decide +kernel, rfl, by decide +kernel, by decide +kernel⟩
abbrev s__law_heard : Stmt := top 52
theorem sc__law_heard : FnScope ["_law_ask", "_law_caught", "error"] ["_law_ask"] (defScope s__law_heard) := ⟨rfl, rfl, rfl, by decide +kernel, rfl, by decide +kernel, by decide +kernel⟩
def sys : Sys := {
  fa := [.free "int", .free "isinstance", .free "bool", .glo "Lengths", .free "range", .free "tuple", .free "all", .free "len", .free "max", .free "list", .glo "Ratio", .glo "Bucket", .free "abs", .free "repr", .free "str", .glo "law", .glo "is_integer", .glo "is_within", .glo "is_length", .glo "divisor_of", .glo "least_sums", .glo "BadLengths", .glo "check_lengths", .glo "BadNumber", .glo "is_count", .glo "check_count", .glo "BadBucket", .glo "bound_of", .glo "CreditError", .glo "_law_pen", .glo "_law_draw", .glo "_law_pick", .glo "_law_part", .glo "_law_is_part", .glo "_law_due", .glo "_law_numbers_right", .glo "_law_heard", .glo "_law_others_right", .noat "BadBucket" "part", .noat "BadLengths" "part", .noat "BadNumber" "value", .cls "Lengths", .mkr "Lengths", .noat "Lengths" "_numbers", .noat "Lengths" "_rows", .noat "Lengths" "_lasts", .noat "Lengths" "_divisor", .noat "Lengths" "_conductor", .cls "Ratio", .mkr "Ratio", .noat "Ratio" "top", .noat "Ratio" "bottom", .cls "Bucket", .mkr "Bucket", .noat "Bucket" "burst", .noat "Bucket" "rate", .noat "Bucket" "every", .meth "Bucket" "earliest", .meth "Bucket" "fits"],
  fc := [.bfun "gcd" "math.gcd", .exo "BadBucket", .exb "BadBucket", .exo "BadLengths", .exb "BadLengths", .exo "BadNumber", .exb "BadNumber", .ins "Lengths", .cread "Lengths", .cval "Lengths" "MOST" (.int 60), .cmet "Lengths" "of", .prop "Lengths" "longest", .first "Lengths" (.own "Lengths"), .first "Lengths" (.ty "int"), .first "Lengths" (.ty "NoneType"), .first "Lengths" (.ty "bool"), .first "Lengths" (.ty "str"), .first "Lengths" (.ty "list"), .first "Lengths" (.ty "tuple"), .first "Lengths" (.ty "dict"), .first "Lengths" (.own "Bucket"), .ins "Ratio", .op "Ratio" "__eq__", .first "Ratio" (.own "Ratio"), .ins "Bucket", .ne "Bucket", .cread "Bucket", .cval "Bucket" "MOST_BURST" (.int 1000000), .cval "Bucket" "MOST_RATE" (.int 1000), .cval "Bucket" "MOST_EVERY" (.int 1000), .op "Bucket" "__call__", .prop "Bucket" "rate_of", .op "Bucket" "__eq__", .op "Bucket" "__str__", .nomro "Bucket" "int", .nomro "Bucket" "NoneType", .nomro "Bucket" "bool", .nomro "Bucket" "str", .nomro "Bucket" "list", .nomro "Bucket" "tuple", .nomro "Bucket" "dict", .first "Bucket" (.own "Bucket"), .kit (.own "Lengths") (.own "Lengths") true, .kit (.own "Ratio") (.own "Ratio") true, .kit (.ty "int") (.own "Ratio") false, .kit (.own "Bucket") (.own "Bucket") true, .kit (.own "BadBucket") (.own "BadBucket") true, .kit (.own "BadNumber") (.own "BadBucket") false, .kit (.own "BadNumber") (.own "BadNumber") true, .kit (.own "BadLengths") (.own "BadBucket") false, .kit (.own "BadLengths") (.own "BadNumber") false, .kit (.own "BadLengths") (.own "BadLengths") true, .kit (.ty "int") (.own "Lengths") false, .kit (.ty "NoneType") (.own "Lengths") false, .kit (.ty "bool") (.own "Lengths") false, .kit (.ty "str") (.own "Lengths") false, .kit (.ty "list") (.own "Lengths") false, .kit (.ty "tuple") (.own "Lengths") false, .kit (.ty "dict") (.own "Lengths") false, .kit (.ty "int") (.own "Bucket") false, .kit (.ty "NoneType") (.own "Bucket") false, .kit (.ty "bool") (.own "Bucket") false, .kit (.ty "str") (.own "Bucket") false, .kit (.ty "list") (.own "Bucket") false, .kit (.ty "tuple") (.own "Bucket") false, .kit (.ty "dict") (.own "Bucket") false, .kit (.own "Bucket") (.own "Lengths") false, .exm "BadBucket" "CreditError" true, .exm "BadNumber" "CreditError" true, .exm "BadLengths" "CreditError" true, .smod],
  fn := [{ at_ := .fn "is_integer", name := "is_integer", qual := "is_integer", st := s_is_integer },
    { at_ := .fn "is_within", name := "is_within", qual := "is_within", st := s_is_within },
    { at_ := .fn "is_length", name := "is_length", qual := "is_length", st := s_is_length },
    { at_ := .fn "divisor_of", name := "divisor_of", qual := "divisor_of", st := s_divisor_of },
    { at_ := .fn "least_sums", name := "least_sums", qual := "least_sums", st := s_least_sums },
    { at_ := .me "BadLengths" "__init__", name := "__init__", qual := "BadLengths.__init__", st := s_BadLengths___init__ },
    { at_ := .me "Lengths" "__init__", name := "__init__", qual := "Lengths.__init__", st := s_Lengths___init__ },
    { at_ := .cm "Lengths" "of", name := "of", qual := "Lengths.of", st := s_Lengths_of },
    { at_ := .fn "check_lengths", name := "check_lengths", qual := "check_lengths", st := s_check_lengths },
    { at_ := .pr "Lengths" "longest", name := "longest", qual := "Lengths.longest", st := s_Lengths_longest },
    { at_ := .me "BadNumber" "__init__", name := "__init__", qual := "BadNumber.__init__", st := s_BadNumber___init__ },
    { at_ := .fn "is_count", name := "is_count", qual := "is_count", st := s_is_count },
    { at_ := .fn "check_count", name := "check_count", qual := "check_count", st := s_check_count },
    { at_ := .me "Ratio" "__init__", name := "__init__", qual := "Ratio.__init__", st := s_Ratio___init__, dfl := [.int (1)] },
    { at_ := .me "Ratio" "__eq__", name := "__eq__", qual := "Ratio.__eq__", st := s_Ratio___eq__ },
    { at_ := .me "BadBucket" "__init__", name := "__init__", qual := "BadBucket.__init__", st := s_BadBucket___init__ },
    { at_ := .me "Bucket" "__init__", name := "__init__", qual := "Bucket.__init__", st := s_Bucket___init__ },
    { at_ := .fn "bound_of", name := "bound_of", qual := "bound_of", st := s_bound_of },
    { at_ := .me "Bucket" "__call__", name := "__call__", qual := "Bucket.__call__", st := s_Bucket___call__ },
    { at_ := .me "Bucket" "earliest", name := "earliest", qual := "Bucket.earliest", st := s_Bucket_earliest },
    { at_ := .pr "Bucket" "rate_of", name := "rate_of", qual := "Bucket.rate_of", st := s_Bucket_rate_of },
    { at_ := .me "Bucket" "fits", name := "fits", qual := "Bucket.fits", st := s_Bucket_fits },
    { at_ := .me "Bucket" "__eq__", name := "__eq__", qual := "Bucket.__eq__", st := s_Bucket___eq__ },
    { at_ := .me "Bucket" "__str__", name := "__str__", qual := "Bucket.__str__", st := s_Bucket___str__ },
    { at_ := .fn "_law_pen", name := "_law_pen", qual := "_law_pen", st := s__law_pen },
    { at_ := .fn "_law_draw", name := "_law_draw", qual := "_law_draw", st := s__law_draw },
    { at_ := .fn "_law_pick", name := "_law_pick", qual := "_law_pick", st := s__law_pick },
    { at_ := .fn "_law_part", name := "_law_part", qual := "_law_part", st := s__law_part },
    { at_ := .fn "_law_is_part", name := "_law_is_part", qual := "_law_is_part", st := s__law_is_part },
    { at_ := .fn "_law_due", name := "_law_due", qual := "_law_due", st := s__law_due },
    { at_ := .fn "_law_numbers_right", name := "_law_numbers_right", qual := "_law_numbers_right", st := s__law_numbers_right },
    { at_ := .fn "_law_others_right", name := "_law_others_right", qual := "_law_others_right", st := s__law_others_right },
    { at_ := .fn "law", name := "law", qual := "law", st := s_law },
    { at_ := .fn "_law_heard", name := "_law_heard", qual := "_law_heard", st := s__law_heard }],
  tf := [.fn "_law_others_right", .fn "law"] }
abbrev T_all (K : PySem.W.Frag) : List (Addr × Str) := [((tabAt K (ga K "_law_others_right")).2, (envOfC "_law_others_right" (defScope s__law_others_right) 0 0 .none).qual ++ "<lambda>"), ((tabAt K (ga K "law")).2, (envOfC "law" (defScope s_law) 0 0 .none).qual ++ "<lambda>")]
theorem tall_u {K : PySem.W.Frag} {mg : Str → Option Value} (S : HD sys K mg) : ∀ p ∈ T_all K, ∀ q ∈ T_all K, p.1 = q.1 → p.2 = q.2 := apart_inj (l := T_all K) S.apart
section
open PySem.W
/-! ### the Hook, over a list of addresses written out -/
def asl : List Addr := ([3, 6, 4, 49, 59, 72, 84, 103, 122, 141, 160, 179, 198, 207, 214, 221, 228, 233, 240, 247, 254, 334, 346, 521, 532, 539, 546, 553, 726, 737, 744, 751, 758, 765, 772, 779, 891, 902, 909, 914, 921, 928, 935, 942, 949, 956, 963, 970, 977, 982, 0, 48, 58, 71, 83, 102, 121, 140, 159, 178] : List Addr) ++ ([197, 206, 213, 220, 227, 232, 239, 246, 253, 333, 345, 339, 520, 531, 538, 545, 552, 725, 736, 743, 750, 757, 764, 771, 778, 890, 901, 908, 913, 920, 927, 934, 941, 948, 955, 962, 969, 976, 981, 43, 44, 45, 46, 47, 57, 60, 70, 82, 100, 101, 119, 120, 138, 139, 157, 158, 176, 177, 195, 196] : List Addr) ++ ([201, 202, 203, 204, 205, 208, 209, 210, 211, 212, 215, 216, 217, 218, 219, 222, 223, 224, 225, 226, 229, 230, 231, 234, 235, 236, 237, 238, 241, 242, 243, 244, 245, 248, 249, 250, 251, 252, 268, 275, 282, 289, 296, 303, 310, 317, 324, 331, 332, 335, 336, 340, 341, 342, 343, 344, 358, 367, 377, 387] : List Addr) ++ ([396, 404, 412, 420, 428, 435, 442, 449, 456, 461, 466, 471, 478, 485, 490, 497, 504, 511, 518, 519, 522, 523, 526, 527, 528, 529, 530, 533, 534, 535, 536, 537, 540, 541, 542, 543, 544, 547, 548, 549, 550, 551, 568, 575, 583, 590, 597, 604, 611, 618, 625, 632, 639, 646, 653, 660, 667, 674, 681, 688] : List Addr) ++ ([695, 702, 709, 716, 723, 724, 727, 728, 731, 732, 733, 734, 735, 738, 739, 740, 741, 742, 745, 746, 747, 748, 749, 752, 753, 754, 755, 756, 759, 760, 761, 762, 763, 766, 767, 768, 769, 770, 773, 774, 775, 776, 777, 793, 802, 810, 817, 825, 832, 839, 846, 853, 860, 867, 874, 881, 888, 889, 892, 893] : List Addr) ++ ([896, 897, 898, 899, 900, 903, 904, 905, 906, 907, 910, 911, 912, 915, 916, 917, 918, 919, 922, 923, 924, 925, 926, 929, 930, 931, 932, 933, 936, 937, 938, 939, 940, 943, 944, 945, 946, 947, 950, 951, 952, 953, 954, 957, 958, 959, 960, 961, 964, 965, 966, 967, 968, 971, 972, 973, 974, 975, 978, 979] : List Addr) ++ ([980, 99, 118, 137, 156, 175, 194, 267, 274, 281, 288, 295, 302, 309, 316, 323, 330, 357, 365, 366, 375, 376, 385, 386, 395, 403, 411, 419, 427, 434, 441, 448, 455, 460, 465, 470, 477, 484, 489, 496, 503, 510, 517, 567, 561, 573, 574, 582, 589, 596, 603, 610, 617, 624, 631, 638, 645, 652, 659, 666] : List Addr) ++ ([673, 680, 687, 694, 701, 708, 715, 722, 792, 800, 801, 809, 816, 824, 831, 838, 845, 852, 859, 866, 873, 880, 887, 94, 95, 96, 97, 98, 113, 114, 115, 116, 117, 132, 133, 134, 135, 136, 151, 152, 153, 154, 155, 170, 171, 172, 173, 174, 189, 190, 191, 192, 193, 262, 263, 264, 265, 266, 269, 270] : List Addr) ++ ([271, 272, 273, 276, 277, 278, 279, 280, 283, 284, 285, 286, 287, 290, 291, 292, 293, 294, 297, 298, 299, 300, 301, 304, 305, 306, 307, 308, 311, 312, 313, 314, 315, 318, 319, 320, 321, 322, 325, 326, 327, 328, 329, 354, 355, 356, 364, 368, 374, 378, 384, 388, 394, 402, 410, 418, 426, 429, 430, 431] : List Addr) ++ ([432, 433, 436, 437, 438, 439, 440, 443, 444, 445, 446, 447, 450, 451, 452, 453, 454, 457, 458, 459, 462, 463, 464, 467, 468, 469, 472, 473, 474, 475, 476, 479, 480, 481, 482, 483, 486, 487, 488, 491, 492, 493, 494, 495, 498, 499, 500, 501, 502, 505, 506, 507, 508, 509, 512, 513, 514, 515, 516, 562] : List Addr) ++ ([563, 564, 565, 566, 572, 576, 577, 578, 579, 580, 581, 584, 585, 586, 587, 588, 591, 592, 593, 594, 595, 598, 599, 600, 601, 602, 605, 606, 607, 608, 609, 612, 613, 614, 615, 616, 619, 620, 621, 622, 623, 626, 627, 628, 629, 630, 633, 634, 635, 636, 637, 640, 641, 642, 643, 644, 647, 648, 649, 650] : List Addr) ++ ([651, 654, 655, 656, 657, 658, 661, 662, 663, 664, 665, 668, 669, 670, 671, 672, 675, 676, 677, 678, 679, 682, 683, 684, 685, 686, 689, 690, 691, 692, 693, 696, 697, 698, 699, 700, 703, 704, 705, 706, 707, 710, 711, 712, 713, 714, 717, 718, 719, 720, 721, 787, 788, 789, 790, 791, 799, 803, 804, 805] : List Addr) ++ ([806, 807, 808, 811, 812, 813, 814, 815, 823, 826, 827, 828, 829, 830, 833, 834, 835, 836, 837, 840, 841, 842, 843, 844, 847, 848, 849, 850, 851, 854, 855, 856, 857, 858, 861, 862, 863, 864, 865, 868, 869, 870, 871, 872, 875, 876, 877, 878, 879, 882, 883, 884, 885, 886] : List Addr) ++ [cStatics, sysModules]
def obsL (y : Sys) (g : Addr → Option Obj) : AlC := (obsK y (He.frT g asl) && tabsC g y.tf (He.frT g asl), y.fn.map fun d => fnWa (He.frT g asl) (d.at_.adr (He.frT g asl)))
theorem saysL_of {y : Sys} {h : Heap} (e : obsL y h.get? = valC y) : SaysC y h (He.frT h.get? asl) := by
  obtain ⟨h1, h2⟩ := Bool.and_eq_true_iff.mp (show (obsK y (He.frT h.get? asl) && tabsC h.get? y.tf (He.frT h.get? asl)) = true from congrArg (fun z : AlC => z.1) e)
  have key : ∀ p ∈ y.tf, PySem.W.codeHdIn (He.frT h.get? asl) (tabAt (He.frT h.get? asl) (p.adr (He.frT h.get? asl))).1 (tabAt (He.frT h.get? asl) (p.adr (He.frT h.get? asl))).2 = true ∧
      ∃ o, h.get? (tabAt (He.frT h.get? asl) (p.adr (He.frT h.get? asl))).2 = some o ∧ He.emptyTab o = true := fun p hp => by
    obtain ⟨h3, h4⟩ := Bool.and_eq_true_iff.mp (List.all_eq_true.mp h2 p hp)
    refine ⟨h3, ?_⟩
    split at h4
    · rename_i o q
      exact ⟨o, q, h4⟩
    · cases h4
  refine ⟨h1, congrArg (fun z : AlC => z.2) e, fun p hp => (key p hp).1, fun p hp => ?_, fun p hp => ?_⟩
  · obtain ⟨_, o, q, z⟩ := key p hp
    exact He.frT_none q z
  · obtain ⟨_, o, q, z⟩ := key p hp
    rw [q, He.emptyTab_eq z]
def hookL (y : Sys) : Hook where
  α := AlC
  obs := fun s => obsL y s.heap.get?
  val := fun _ => valC y
  says := fun _ h => ∃ K : Frag, K.In h ∧ SaysC y h K
  of := fun _ _ e => ⟨_, He.frT_in, saysL_of e⟩
  keeps := fun _ _ _ ⟨K, hK, c⟩ k => ⟨K, Frag.In.keeps hK k, ⟨c.k, c.d, c.hd, c.out, fun p hp => k _ _ (c.empty p hp)⟩⟩
theorem obsL_eq {y : Sys} {g : Addr → Option Obj} {s : Shared} (h : ∀ a, g a = s.heap.get? a) : obsL y g = (hookL y).obs s := by
  have e : g = s.heap.get? := funext h
  rw [e] <;> rfl
def loose : List PySem.Str := ([Str.ofString "_wall", Str.ofString "CreditError", Str.ofString "BadInput", Str.ofString "NoAnswer", Str.ofString "BadBucket", Str.ofString "BadLengths", Str.ofString "BadNumber", Str.ofString "BadRatio", Str.ofString "BadText", Str.ofString "NoSum", Str.ofString "is_integer", Str.ofString "is_count", Str.ofString "is_within", Str.ofString "check_count", Str.ofString "least_sums", Str.ofString "is_figures", Str.ofString "tells_number", Str.ofString "check_text", Str.ofString "Words", Str.ofString "words_of", Str.ofString "Lengths", Str.ofString "divisor_of", Str.ofString "is_length", Str.ofString "check_lengths", Str.ofString "take_numbers", Str.ofString "MOST_FIGURES", Str.ofString "Ratio", Str.ofString "as_ratio", Str.ofString "sum_of", Str.ofString "product_of", Str.ofString "whole_times", Str.ofString "what_is_left", Str.ofString "is_below", Str.ofString "is_readable", Str.ofString "Bucket"] : List PySem.Str) ++ ([Str.ofString "bound_of", Str.ofString "check_other", Str.ofString "is_at_most", Str.ofString "_law_pen", Str.ofString "_law_draw", Str.ofString "_law_pick", Str.ofString "_law_part", Str.ofString "_law_is_part", Str.ofString "_law_heard", Str.ofString "_law_due", Str.ofString "_law_numbers_right", Str.ofString "_law_others_right"] : List PySem.Str)
abbrev R : OpenRow := OpenLaw.row PySem.Challenge.rw_creditturns_k50_buckets_made
abbrev q : Program := view R.prog [0, 56]
abbrev hk : Hook := hookL sys
def ob (s : SharedT) : AlC := obsL sys (HandSHeadRun.getT s)
theorem ob_eq (s : SharedT) : ob s = hk.obs s.abs := obsL_eq (HandSHeadRun.getT_eq s)
theorem run (w : World) : HandSHeadRun.RunEqI R q hk ob 20000 loose w := by
  unfold HandSHeadRun.RunEqI
  kernel_rfl
end
section
variable {K : PySem.W.Frag} {mg : Str → Option Value}
theorem n_int (S : HD sys K mg) : mg "int" = none := S.free (S.fact 0)
theorem n_isinstance (S : HD sys K mg) : mg "isinstance" = none := S.free (S.fact 1)
theorem n_bool (S : HD sys K mg) : mg "bool" = none := S.free (S.fact 2)
theorem g_Lengths (S : HD sys K mg) : mg "Lengths" = some (.ref (ga K "Lengths")) := S.glo (S.fact 3)
theorem bf_gcd (S : HD sys K mg) : mg "gcd" = some (.builtin "math.gcd") := S.bfun (S.fcc 0)
theorem n_range (S : HD sys K mg) : mg "range" = none := S.free (S.fact 4)
theorem n_tuple (S : HD sys K mg) : mg "tuple" = none := S.free (S.fact 5)
theorem n_all (S : HD sys K mg) : mg "all" = none := S.free (S.fact 6)
theorem n_len (S : HD sys K mg) : mg "len" = none := S.free (S.fact 7)
theorem n_max (S : HD sys K mg) : mg "max" = none := S.free (S.fact 8)
theorem n_list (S : HD sys K mg) : mg "list" = none := S.free (S.fact 9)
theorem g_Ratio (S : HD sys K mg) : mg "Ratio" = some (.ref (ga K "Ratio")) := S.glo (S.fact 10)
theorem g_Bucket (S : HD sys K mg) : mg "Bucket" = some (.ref (ga K "Bucket")) := S.glo (S.fact 11)
theorem n_abs (S : HD sys K mg) : mg "abs" = none := S.free (S.fact 12)
theorem n_repr (S : HD sys K mg) : mg "repr" = none := S.free (S.fact 13)
theorem n_str (S : HD sys K mg) : mg "str" = none := S.free (S.fact 14)
theorem g_law (S : HD sys K mg) : mg "law" = some (.ref (ga K "law")) := S.glo (S.fact 15)
theorem g_is_integer (S : HD sys K mg) : mg "is_integer" = some (.ref (ga K "is_integer")) := S.glo (S.fact 16)
theorem g_is_within (S : HD sys K mg) : mg "is_within" = some (.ref (ga K "is_within")) := S.glo (S.fact 17)
theorem g_is_length (S : HD sys K mg) : mg "is_length" = some (.ref (ga K "is_length")) := S.glo (S.fact 18)
theorem g_divisor_of (S : HD sys K mg) : mg "divisor_of" = some (.ref (ga K "divisor_of")) := S.glo (S.fact 19)
theorem g_least_sums (S : HD sys K mg) : mg "least_sums" = some (.ref (ga K "least_sums")) := S.glo (S.fact 20)
theorem g_BadLengths (S : HD sys K mg) : mg "BadLengths" = some (.ref (ga K "BadLengths")) := S.glo (S.fact 21)
theorem g_check_lengths (S : HD sys K mg) : mg "check_lengths" = some (.ref (ga K "check_lengths")) := S.glo (S.fact 22)
theorem g_BadNumber (S : HD sys K mg) : mg "BadNumber" = some (.ref (ga K "BadNumber")) := S.glo (S.fact 23)
theorem g_is_count (S : HD sys K mg) : mg "is_count" = some (.ref (ga K "is_count")) := S.glo (S.fact 24)
theorem g_check_count (S : HD sys K mg) : mg "check_count" = some (.ref (ga K "check_count")) := S.glo (S.fact 25)
theorem g_BadBucket (S : HD sys K mg) : mg "BadBucket" = some (.ref (ga K "BadBucket")) := S.glo (S.fact 26)
theorem g_bound_of (S : HD sys K mg) : mg "bound_of" = some (.ref (ga K "bound_of")) := S.glo (S.fact 27)
theorem g_CreditError (S : HD sys K mg) : mg "CreditError" = some (.ref (ga K "CreditError")) := S.glo (S.fact 28)
theorem g__law_pen (S : HD sys K mg) : mg "_law_pen" = some (.ref (ga K "_law_pen")) := S.glo (S.fact 29)
theorem g__law_draw (S : HD sys K mg) : mg "_law_draw" = some (.ref (ga K "_law_draw")) := S.glo (S.fact 30)
theorem g__law_pick (S : HD sys K mg) : mg "_law_pick" = some (.ref (ga K "_law_pick")) := S.glo (S.fact 31)
theorem g__law_part (S : HD sys K mg) : mg "_law_part" = some (.ref (ga K "_law_part")) := S.glo (S.fact 32)
theorem g__law_is_part (S : HD sys K mg) : mg "_law_is_part" = some (.ref (ga K "_law_is_part")) := S.glo (S.fact 33)
theorem g__law_due (S : HD sys K mg) : mg "_law_due" = some (.ref (ga K "_law_due")) := S.glo (S.fact 34)
theorem g__law_numbers_right (S : HD sys K mg) : mg "_law_numbers_right" = some (.ref (ga K "_law_numbers_right")) := S.glo (S.fact 35)
theorem g__law_heard (S : HD sys K mg) : mg "_law_heard" = some (.ref (ga K "_law_heard")) := S.glo (S.fact 36)
theorem g__law_others_right (S : HD sys K mg) : mg "_law_others_right" = some (.ref (ga K "_law_others_right")) := S.glo (S.fact 37)
theorem exo_BadBucket (S : HD sys K mg) : ExoC K (ga K "BadBucket") (ma K (ga K "BadBucket") "__init__") := exo_f (S.fcc 1) (S.fcc 2)
theorem exb_BadBucket (S : HD sys K mg) : XfC K (ga K "BadBucket") ∧ ExcC K (ga K "BadBucket") ∧ PySem.W.typeIn K (.ref (ga K "BadBucket")) = some (.type "type") := exb_f (S.fcc 2)
theorem na_BadBucket_part (S : HD sys K mg) : NoAttr K (ga K "BadBucket") "part" := He.noat_ok (S.fact 38)
theorem exo_BadLengths (S : HD sys K mg) : ExoC K (ga K "BadLengths") (ma K (ga K "BadLengths") "__init__") := exo_f (S.fcc 3) (S.fcc 4)
theorem exb_BadLengths (S : HD sys K mg) : XfC K (ga K "BadLengths") ∧ ExcC K (ga K "BadLengths") ∧ PySem.W.typeIn K (.ref (ga K "BadLengths")) = some (.type "type") := exb_f (S.fcc 4)
theorem na_BadLengths_part (S : HD sys K mg) : NoAttr K (ga K "BadLengths") "part" := He.noat_ok (S.fact 39)
theorem exo_BadNumber (S : HD sys K mg) : ExoC K (ga K "BadNumber") (ma K (ga K "BadNumber") "__init__") := exo_f (S.fcc 5) (S.fcc 6)
theorem exb_BadNumber (S : HD sys K mg) : XfC K (ga K "BadNumber") ∧ ExcC K (ga K "BadNumber") ∧ PySem.W.typeIn K (.ref (ga K "BadNumber")) = some (.type "type") := exb_f (S.fcc 6)
theorem na_BadNumber_value (S : HD sys K mg) : NoAttr K (ga K "BadNumber") "value" := He.noat_ok (S.fact 40)
theorem C_Lengths (S : HD sys K mg) : Cls K (ga K "Lengths") := He.cls_ok (S.fact 41)
theorem mk_Lengths (S : HD sys K mg) : Mk K (ga K "Lengths") (ma K (ga K "Lengths") "__init__") := He.mkr_ok (S.fact 42)
theorem in_Lengths (S : HD sys K mg) : InsC K (ga K "Lengths") := ins_f (S.fcc 7) (He.cls_ok (S.fact 41))
theorem cr_Lengths (S : HD sys K mg) : ClX.CRead K (ga K "Lengths") (clsMc K (ga K "Lengths")) := cread_f (S.fcc 8)
theorem cv_Lengths_MOST (S : HD sys K mg) : ∃ u, ClX.CVal K (ga K "Lengths") (clsMc K (ga K "Lengths")) "MOST" (.int 60) u := cval_f (S.fcc 9)
theorem na_Lengths__numbers (S : HD sys K mg) : NoAttr K (ga K "Lengths") "_numbers" := He.noat_ok (S.fact 43)
theorem na_Lengths__rows (S : HD sys K mg) : NoAttr K (ga K "Lengths") "_rows" := He.noat_ok (S.fact 44)
theorem na_Lengths__lasts (S : HD sys K mg) : NoAttr K (ga K "Lengths") "_lasts" := He.noat_ok (S.fact 45)
theorem na_Lengths__divisor (S : HD sys K mg) : NoAttr K (ga K "Lengths") "_divisor" := He.noat_ok (S.fact 46)
theorem na_Lengths__conductor (S : HD sys K mg) : NoAttr K (ga K "Lengths") "_conductor" := He.noat_ok (S.fact 47)
theorem cme_Lengths_of (S : HD sys K mg) : ClX.CMet K (ga K "Lengths") (clsMc K (ga K "Lengths")) "of" (cmAt K (ga K "Lengths") "of") (recHead K (cmAt K (ga K "Lengths") "of") "classmethod") := cmet_f (S.fcc 10)
theorem prp_Lengths_longest (S : HD sys K mg) : PropOf K (ga K "Lengths") "longest" (propAt K (ga K "Lengths") "longest") (recHead K (propAt K (ga K "Lengths") "longest") "property") := prop_f (S.fcc 11)
theorem fr_Lengths_o_Lengths (S : HD sys K mg) : PySem.W.notFirst K (ga K "Lengths") (Nm.val K (.own "Lengths")) = true := first_f (S.fcc 12)
theorem fr_Lengths_int (S : HD sys K mg) : PySem.W.notFirst K (ga K "Lengths") (Nm.val K (.ty "int")) = true := first_f (S.fcc 13)
theorem fr_Lengths_NoneType (S : HD sys K mg) : PySem.W.notFirst K (ga K "Lengths") (Nm.val K (.ty "NoneType")) = true := first_f (S.fcc 14)
theorem fr_Lengths_bool (S : HD sys K mg) : PySem.W.notFirst K (ga K "Lengths") (Nm.val K (.ty "bool")) = true := first_f (S.fcc 15)
theorem fr_Lengths_str (S : HD sys K mg) : PySem.W.notFirst K (ga K "Lengths") (Nm.val K (.ty "str")) = true := first_f (S.fcc 16)
theorem fr_Lengths_list (S : HD sys K mg) : PySem.W.notFirst K (ga K "Lengths") (Nm.val K (.ty "list")) = true := first_f (S.fcc 17)
theorem fr_Lengths_tuple (S : HD sys K mg) : PySem.W.notFirst K (ga K "Lengths") (Nm.val K (.ty "tuple")) = true := first_f (S.fcc 18)
theorem fr_Lengths_dict (S : HD sys K mg) : PySem.W.notFirst K (ga K "Lengths") (Nm.val K (.ty "dict")) = true := first_f (S.fcc 19)
theorem fr_Lengths_o_Bucket (S : HD sys K mg) : PySem.W.notFirst K (ga K "Lengths") (Nm.val K (.own "Bucket")) = true := first_f (S.fcc 20)
theorem C_Ratio (S : HD sys K mg) : Cls K (ga K "Ratio") := He.cls_ok (S.fact 48)
theorem mk_Ratio (S : HD sys K mg) : Mk K (ga K "Ratio") (ma K (ga K "Ratio") "__init__") := He.mkr_ok (S.fact 49)
theorem in_Ratio (S : HD sys K mg) : InsC K (ga K "Ratio") := ins_f (S.fcc 21) (He.cls_ok (S.fact 48))
theorem na_Ratio_top (S : HD sys K mg) : NoAttr K (ga K "Ratio") "top" := He.noat_ok (S.fact 50)
theorem na_Ratio_bottom (S : HD sys K mg) : NoAttr K (ga K "Ratio") "bottom" := He.noat_ok (S.fact 51)
theorem opf_Ratio___eq__ (S : HD sys K mg) : PySem.W.findIn K (.ref (ga K "Ratio")) "__eq__" = some (some (.ref (ma K (ga K "Ratio") "__eq__"))) ∧ PySem.W.isFn K (.ref (ma K (ga K "Ratio") "__eq__")) = true := op_f (S.fcc 22)
theorem fr_Ratio_o_Ratio (S : HD sys K mg) : PySem.W.notFirst K (ga K "Ratio") (Nm.val K (.own "Ratio")) = true := first_f (S.fcc 23)
theorem C_Bucket (S : HD sys K mg) : Cls K (ga K "Bucket") := He.cls_ok (S.fact 52)
theorem mk_Bucket (S : HD sys K mg) : Mk K (ga K "Bucket") (ma K (ga K "Bucket") "__init__") := He.mkr_ok (S.fact 53)
theorem in_Bucket (S : HD sys K mg) : InsC K (ga K "Bucket") := ins_f (S.fcc 24) (He.cls_ok (S.fact 52))
theorem ne_Bucket (S : HD sys K mg) : PySem.W.findIn K (.ref (ga K "Bucket")) "__ne__" = some (some (.builtin "object.__ne__")) := ne_f (S.fcc 25)
theorem cr_Bucket (S : HD sys K mg) : ClX.CRead K (ga K "Bucket") (clsMc K (ga K "Bucket")) := cread_f (S.fcc 26)
theorem na_Bucket_burst (S : HD sys K mg) : NoAttr K (ga K "Bucket") "burst" := He.noat_ok (S.fact 54)
theorem na_Bucket_rate (S : HD sys K mg) : NoAttr K (ga K "Bucket") "rate" := He.noat_ok (S.fact 55)
theorem na_Bucket_every (S : HD sys K mg) : NoAttr K (ga K "Bucket") "every" := He.noat_ok (S.fact 56)
theorem cv_Bucket_MOST_BURST (S : HD sys K mg) : ∃ u, ClX.CVal K (ga K "Bucket") (clsMc K (ga K "Bucket")) "MOST_BURST" (.int 1000000) u := cval_f (S.fcc 27)
theorem cv_Bucket_MOST_RATE (S : HD sys K mg) : ∃ u, ClX.CVal K (ga K "Bucket") (clsMc K (ga K "Bucket")) "MOST_RATE" (.int 1000) u := cval_f (S.fcc 28)
theorem cv_Bucket_MOST_EVERY (S : HD sys K mg) : ∃ u, ClX.CVal K (ga K "Bucket") (clsMc K (ga K "Bucket")) "MOST_EVERY" (.int 1000) u := cval_f (S.fcc 29)
theorem opf_Bucket___call__ (S : HD sys K mg) : PySem.W.findIn K (.ref (ga K "Bucket")) "__call__" = some (some (.ref (ma K (ga K "Bucket") "__call__"))) ∧ PySem.W.isFn K (.ref (ma K (ga K "Bucket") "__call__")) = true := op_f (S.fcc 30)
theorem mt_Bucket_earliest (S : HD sys K mg) : Meth K (ga K "Bucket") "earliest" (ma K (ga K "Bucket") "earliest") := He.meth_ok (S.fact 57)
theorem prp_Bucket_rate_of (S : HD sys K mg) : PropOf K (ga K "Bucket") "rate_of" (propAt K (ga K "Bucket") "rate_of") (recHead K (propAt K (ga K "Bucket") "rate_of") "property") := prop_f (S.fcc 31)
theorem mt_Bucket_fits (S : HD sys K mg) : Meth K (ga K "Bucket") "fits" (ma K (ga K "Bucket") "fits") := He.meth_ok (S.fact 58)
theorem opf_Bucket___eq__ (S : HD sys K mg) : PySem.W.findIn K (.ref (ga K "Bucket")) "__eq__" = some (some (.ref (ma K (ga K "Bucket") "__eq__"))) ∧ PySem.W.isFn K (.ref (ma K (ga K "Bucket") "__eq__")) = true := op_f (S.fcc 32)
theorem opf_Bucket___str__ (S : HD sys K mg) : PySem.W.findIn K (.ref (ga K "Bucket")) "__str__" = some (some (.ref (ma K (ga K "Bucket") "__str__"))) ∧ PySem.W.isFn K (.ref (ma K (ga K "Bucket") "__str__")) = true := op_f (S.fcc 33)
theorem nm_Bucket_int (S : HD sys K mg) : PySem.W.mroIn K (ga K "Bucket") (.type "int") = some false := nomro_f (S.fcc 34)
theorem nm_Bucket_NoneType (S : HD sys K mg) : PySem.W.mroIn K (ga K "Bucket") (.type "NoneType") = some false := nomro_f (S.fcc 35)
theorem nm_Bucket_bool (S : HD sys K mg) : PySem.W.mroIn K (ga K "Bucket") (.type "bool") = some false := nomro_f (S.fcc 36)
theorem nm_Bucket_str (S : HD sys K mg) : PySem.W.mroIn K (ga K "Bucket") (.type "str") = some false := nomro_f (S.fcc 37)
theorem nm_Bucket_list (S : HD sys K mg) : PySem.W.mroIn K (ga K "Bucket") (.type "list") = some false := nomro_f (S.fcc 38)
theorem nm_Bucket_tuple (S : HD sys K mg) : PySem.W.mroIn K (ga K "Bucket") (.type "tuple") = some false := nomro_f (S.fcc 39)
theorem nm_Bucket_dict (S : HD sys K mg) : PySem.W.mroIn K (ga K "Bucket") (.type "dict") = some false := nomro_f (S.fcc 40)
theorem fr_Bucket_o_Bucket (S : HD sys K mg) : PySem.W.notFirst K (ga K "Bucket") (Nm.val K (.own "Bucket")) = true := first_f (S.fcc 41)
theorem kit_o_Lengths__o_Lengths__true (S : HD sys K mg) : PySem.W.kitOne K (Nm.val K (.own "Lengths")) (Nm.val K (.own "Lengths")) = some true := kit_f (S.fcc 42)
theorem kit_o_Ratio__o_Ratio__true (S : HD sys K mg) : PySem.W.kitOne K (Nm.val K (.own "Ratio")) (Nm.val K (.own "Ratio")) = some true := kit_f (S.fcc 43)
theorem kit_int__o_Ratio__false (S : HD sys K mg) : PySem.W.kitOne K (Nm.val K (.ty "int")) (Nm.val K (.own "Ratio")) = some false := kit_f (S.fcc 44)
theorem kit_o_Bucket__o_Bucket__true (S : HD sys K mg) : PySem.W.kitOne K (Nm.val K (.own "Bucket")) (Nm.val K (.own "Bucket")) = some true := kit_f (S.fcc 45)
theorem kit_o_BadBucket__o_BadBucket__true (S : HD sys K mg) : PySem.W.kitOne K (Nm.val K (.own "BadBucket")) (Nm.val K (.own "BadBucket")) = some true := kit_f (S.fcc 46)
theorem kit_o_BadNumber__o_BadBucket__false (S : HD sys K mg) : PySem.W.kitOne K (Nm.val K (.own "BadNumber")) (Nm.val K (.own "BadBucket")) = some false := kit_f (S.fcc 47)
theorem kit_o_BadNumber__o_BadNumber__true (S : HD sys K mg) : PySem.W.kitOne K (Nm.val K (.own "BadNumber")) (Nm.val K (.own "BadNumber")) = some true := kit_f (S.fcc 48)
theorem kit_o_BadLengths__o_BadBucket__false (S : HD sys K mg) : PySem.W.kitOne K (Nm.val K (.own "BadLengths")) (Nm.val K (.own "BadBucket")) = some false := kit_f (S.fcc 49)
theorem kit_o_BadLengths__o_BadNumber__false (S : HD sys K mg) : PySem.W.kitOne K (Nm.val K (.own "BadLengths")) (Nm.val K (.own "BadNumber")) = some false := kit_f (S.fcc 50)
theorem kit_o_BadLengths__o_BadLengths__true (S : HD sys K mg) : PySem.W.kitOne K (Nm.val K (.own "BadLengths")) (Nm.val K (.own "BadLengths")) = some true := kit_f (S.fcc 51)
theorem kit_int__o_Lengths__false (S : HD sys K mg) : PySem.W.kitOne K (Nm.val K (.ty "int")) (Nm.val K (.own "Lengths")) = some false := kit_f (S.fcc 52)
theorem kit_NoneType__o_Lengths__false (S : HD sys K mg) : PySem.W.kitOne K (Nm.val K (.ty "NoneType")) (Nm.val K (.own "Lengths")) = some false := kit_f (S.fcc 53)
theorem kit_bool__o_Lengths__false (S : HD sys K mg) : PySem.W.kitOne K (Nm.val K (.ty "bool")) (Nm.val K (.own "Lengths")) = some false := kit_f (S.fcc 54)
theorem kit_str__o_Lengths__false (S : HD sys K mg) : PySem.W.kitOne K (Nm.val K (.ty "str")) (Nm.val K (.own "Lengths")) = some false := kit_f (S.fcc 55)
theorem kit_list__o_Lengths__false (S : HD sys K mg) : PySem.W.kitOne K (Nm.val K (.ty "list")) (Nm.val K (.own "Lengths")) = some false := kit_f (S.fcc 56)
theorem kit_tuple__o_Lengths__false (S : HD sys K mg) : PySem.W.kitOne K (Nm.val K (.ty "tuple")) (Nm.val K (.own "Lengths")) = some false := kit_f (S.fcc 57)
theorem kit_dict__o_Lengths__false (S : HD sys K mg) : PySem.W.kitOne K (Nm.val K (.ty "dict")) (Nm.val K (.own "Lengths")) = some false := kit_f (S.fcc 58)
theorem kit_int__o_Bucket__false (S : HD sys K mg) : PySem.W.kitOne K (Nm.val K (.ty "int")) (Nm.val K (.own "Bucket")) = some false := kit_f (S.fcc 59)
theorem kit_NoneType__o_Bucket__false (S : HD sys K mg) : PySem.W.kitOne K (Nm.val K (.ty "NoneType")) (Nm.val K (.own "Bucket")) = some false := kit_f (S.fcc 60)
theorem kit_bool__o_Bucket__false (S : HD sys K mg) : PySem.W.kitOne K (Nm.val K (.ty "bool")) (Nm.val K (.own "Bucket")) = some false := kit_f (S.fcc 61)
theorem kit_str__o_Bucket__false (S : HD sys K mg) : PySem.W.kitOne K (Nm.val K (.ty "str")) (Nm.val K (.own "Bucket")) = some false := kit_f (S.fcc 62)
theorem kit_list__o_Bucket__false (S : HD sys K mg) : PySem.W.kitOne K (Nm.val K (.ty "list")) (Nm.val K (.own "Bucket")) = some false := kit_f (S.fcc 63)
theorem kit_tuple__o_Bucket__false (S : HD sys K mg) : PySem.W.kitOne K (Nm.val K (.ty "tuple")) (Nm.val K (.own "Bucket")) = some false := kit_f (S.fcc 64)
theorem kit_dict__o_Bucket__false (S : HD sys K mg) : PySem.W.kitOne K (Nm.val K (.ty "dict")) (Nm.val K (.own "Bucket")) = some false := kit_f (S.fcc 65)
theorem kit_o_Bucket__o_Lengths__false (S : HD sys K mg) : PySem.W.kitOne K (Nm.val K (.own "Bucket")) (Nm.val K (.own "Lengths")) = some false := kit_f (S.fcc 66)
theorem exm_BadBucket__CreditError__true (S : HD sys K mg) : PySem.W.exmOne K (.ref (ga K "BadBucket")) (.ref (ga K "CreditError")) = some true := exm_f (S.fcc 67)
theorem exm_BadNumber__CreditError__true (S : HD sys K mg) : PySem.W.exmOne K (.ref (ga K "BadNumber")) (.ref (ga K "CreditError")) = some true := exm_f (S.fcc 68)
theorem exm_BadLengths__CreditError__true (S : HD sys K mg) : PySem.W.exmOne K (.ref (ga K "BadLengths")) (.ref (ga K "CreditError")) = some true := exm_f (S.fcc 69)
theorem smod (S : HD sys K mg) : (K.lookup sysModules).isSome = true := smod_f (S.fcc 70)
theorem d_is_integer (S : HD sys K mg) : FunD K "is_integer" "is_integer" (defArgs s_is_integer) (defBody s_is_integer) (defScope s_is_integer) [] [] (Pl.adr K (.fn "is_integer")) (fdAt K (Pl.adr K (.fn "is_integer"))) := S.def_ 0
theorem b_is_integer (S : HD sys K mg) : Binds K (fdAt K (Pl.adr K (.fn "is_integer"))) ["value"] [] := (d_is_integer S).bindsN fun _ _ _ _ _ _ us hl => match us, hl with | [_], _ => rfl
theorem d_is_within (S : HD sys K mg) : FunD K "is_within" "is_within" (defArgs s_is_within) (defBody s_is_within) (defScope s_is_within) [] [] (Pl.adr K (.fn "is_within")) (fdAt K (Pl.adr K (.fn "is_within"))) := S.def_ 1
theorem b_is_within (S : HD sys K mg) : Binds K (fdAt K (Pl.adr K (.fn "is_within"))) ["value", "least", "most"] [] := (d_is_within S).bindsN fun _ _ _ _ _ _ us hl => match us, hl with | [_, _, _], _ => rfl
theorem d_is_length (S : HD sys K mg) : FunD K "is_length" "is_length" (defArgs s_is_length) (defBody s_is_length) (defScope s_is_length) [] [] (Pl.adr K (.fn "is_length")) (fdAt K (Pl.adr K (.fn "is_length"))) := S.def_ 2
theorem b_is_length (S : HD sys K mg) : Binds K (fdAt K (Pl.adr K (.fn "is_length"))) ["value"] [] := (d_is_length S).bindsN fun _ _ _ _ _ _ us hl => match us, hl with | [_], _ => rfl
theorem d_divisor_of (S : HD sys K mg) : FunD K "divisor_of" "divisor_of" (defArgs s_divisor_of) (defBody s_divisor_of) (defScope s_divisor_of) [] [] (Pl.adr K (.fn "divisor_of")) (fdAt K (Pl.adr K (.fn "divisor_of"))) := S.def_ 3
theorem b_divisor_of (S : HD sys K mg) : Binds K (fdAt K (Pl.adr K (.fn "divisor_of"))) ["numbers"] [] := (d_divisor_of S).bindsN fun _ _ _ _ _ _ us hl => match us, hl with | [_], _ => rfl
theorem d_least_sums (S : HD sys K mg) : FunD K "least_sums" "least_sums" (defArgs s_least_sums) (defBody s_least_sums) (defScope s_least_sums) [] [] (Pl.adr K (.fn "least_sums")) (fdAt K (Pl.adr K (.fn "least_sums"))) := S.def_ 4
theorem b_least_sums (S : HD sys K mg) : Binds K (fdAt K (Pl.adr K (.fn "least_sums"))) ["numbers"] [] := (d_least_sums S).bindsN fun _ _ _ _ _ _ us hl => match us, hl with | [_], _ => rfl
theorem d_BadLengths___init__ (S : HD sys K mg) : FunD K "__init__" "BadLengths.__init__" (defArgs s_BadLengths___init__) (defBody s_BadLengths___init__) (defScope s_BadLengths___init__) [] [] (Pl.adr K (.me "BadLengths" "__init__")) (fdAt K (Pl.adr K (.me "BadLengths" "__init__"))) := S.def_ 5
theorem b_BadLengths___init__ (S : HD sys K mg) : Binds K (fdAt K (Pl.adr K (.me "BadLengths" "__init__"))) ["self", "part"] [] := (d_BadLengths___init__ S).bindsN fun _ _ _ _ _ _ us hl => match us, hl with | [_, _], _ => rfl
theorem d_Lengths___init__ (S : HD sys K mg) : FunD K "__init__" "Lengths.__init__" (defArgs s_Lengths___init__) (defBody s_Lengths___init__) (defScope s_Lengths___init__) [] [] (Pl.adr K (.me "Lengths" "__init__")) (fdAt K (Pl.adr K (.me "Lengths" "__init__"))) := S.def_ 6
theorem d_Lengths_of (S : HD sys K mg) : FunD K "of" "Lengths.of" (defArgs s_Lengths_of) (defBody s_Lengths_of) (defScope s_Lengths_of) [] [] (Pl.adr K (.cm "Lengths" "of")) (fdAt K (Pl.adr K (.cm "Lengths" "of"))) := S.def_ 7
theorem b_Lengths_of (S : HD sys K mg) : Binds K (fdAt K (Pl.adr K (.cm "Lengths" "of"))) ["cls", "numbers"] [] := (d_Lengths_of S).bindsN fun _ _ _ _ _ _ us hl => match us, hl with | [_, _], _ => rfl
theorem d_check_lengths (S : HD sys K mg) : FunD K "check_lengths" "check_lengths" (defArgs s_check_lengths) (defBody s_check_lengths) (defScope s_check_lengths) [] [] (Pl.adr K (.fn "check_lengths")) (fdAt K (Pl.adr K (.fn "check_lengths"))) := S.def_ 8
theorem b_check_lengths (S : HD sys K mg) : Binds K (fdAt K (Pl.adr K (.fn "check_lengths"))) ["lengths"] [] := (d_check_lengths S).bindsN fun _ _ _ _ _ _ us hl => match us, hl with | [_], _ => rfl
theorem d_Lengths_longest (S : HD sys K mg) : FunD K "longest" "Lengths.longest" (defArgs s_Lengths_longest) (defBody s_Lengths_longest) (defScope s_Lengths_longest) [] [] (Pl.adr K (.pr "Lengths" "longest")) (fdAt K (Pl.adr K (.pr "Lengths" "longest"))) := S.def_ 9
theorem b_Lengths_longest (S : HD sys K mg) : Binds K (fdAt K (Pl.adr K (.pr "Lengths" "longest"))) ["self"] [] := (d_Lengths_longest S).bindsN fun _ _ _ _ _ _ us hl => match us, hl with | [_], _ => rfl
theorem d_BadNumber___init__ (S : HD sys K mg) : FunD K "__init__" "BadNumber.__init__" (defArgs s_BadNumber___init__) (defBody s_BadNumber___init__) (defScope s_BadNumber___init__) [] [] (Pl.adr K (.me "BadNumber" "__init__")) (fdAt K (Pl.adr K (.me "BadNumber" "__init__"))) := S.def_ 10
theorem b_BadNumber___init__ (S : HD sys K mg) : Binds K (fdAt K (Pl.adr K (.me "BadNumber" "__init__"))) ["self", "value"] [] := (d_BadNumber___init__ S).bindsN fun _ _ _ _ _ _ us hl => match us, hl with | [_, _], _ => rfl
theorem d_is_count (S : HD sys K mg) : FunD K "is_count" "is_count" (defArgs s_is_count) (defBody s_is_count) (defScope s_is_count) [] [] (Pl.adr K (.fn "is_count")) (fdAt K (Pl.adr K (.fn "is_count"))) := S.def_ 11
theorem b_is_count (S : HD sys K mg) : Binds K (fdAt K (Pl.adr K (.fn "is_count"))) ["value"] [] := (d_is_count S).bindsN fun _ _ _ _ _ _ us hl => match us, hl with | [_], _ => rfl
theorem d_check_count (S : HD sys K mg) : FunD K "check_count" "check_count" (defArgs s_check_count) (defBody s_check_count) (defScope s_check_count) [] [] (Pl.adr K (.fn "check_count")) (fdAt K (Pl.adr K (.fn "check_count"))) := S.def_ 12
theorem b_check_count (S : HD sys K mg) : Binds K (fdAt K (Pl.adr K (.fn "check_count"))) ["value"] [] := (d_check_count S).bindsN fun _ _ _ _ _ _ us hl => match us, hl with | [_], _ => rfl
theorem d_Ratio___init__ (S : HD sys K mg) : FunD K "__init__" "Ratio.__init__" (defArgs s_Ratio___init__) (defBody s_Ratio___init__) (defScope s_Ratio___init__) [V.int (1)] [] (Pl.adr K (.me "Ratio" "__init__")) (fdAt K (Pl.adr K (.me "Ratio" "__init__"))) := S.def_ 13
theorem b_Ratio___init__ (S : HD sys K mg) : Binds K (fdAt K (Pl.adr K (.me "Ratio" "__init__"))) ["self", "top", "bottom"] [] := by
  obtain ⟨ds, v, b⟩ := (d_Ratio___init__ S).binds1 (ps := ["self", "top", "bottom"]) 3 1 (by intro z; cases z) rfl (fun T kV doc pm an cdv ct us its hu hi => match us, hu, its, hi with | [_, _, _], _, [_], _ => ⟨_, rfl, rfl⟩)
  cases v
  exact b
theorem bd_Ratio___init___2 (S : HD sys K mg) : ∃ ds, Vals [V.int (1)] ds ∧ Binds K (fdAt K (Pl.adr K (.me "Ratio" "__init__"))) ["self", "top", "bottom"] ds := (d_Ratio___init__ S).binds1 (ps := ["self", "top", "bottom"]) 2 0 (by intro z; cases z) rfl (fun T kV doc pm an cdv ct us its hu hi => match us, hu, its, hi with | [_, _], _, [_], _ => ⟨_, rfl, rfl⟩)
theorem d_Ratio___eq__ (S : HD sys K mg) : FunD K "__eq__" "Ratio.__eq__" (defArgs s_Ratio___eq__) (defBody s_Ratio___eq__) (defScope s_Ratio___eq__) [] [] (Pl.adr K (.me "Ratio" "__eq__")) (fdAt K (Pl.adr K (.me "Ratio" "__eq__"))) := S.def_ 14
theorem b_Ratio___eq__ (S : HD sys K mg) : Binds K (fdAt K (Pl.adr K (.me "Ratio" "__eq__"))) ["self", "other"] [] := (d_Ratio___eq__ S).bindsN fun _ _ _ _ _ _ us hl => match us, hl with | [_, _], _ => rfl
theorem d_BadBucket___init__ (S : HD sys K mg) : FunD K "__init__" "BadBucket.__init__" (defArgs s_BadBucket___init__) (defBody s_BadBucket___init__) (defScope s_BadBucket___init__) [] [] (Pl.adr K (.me "BadBucket" "__init__")) (fdAt K (Pl.adr K (.me "BadBucket" "__init__"))) := S.def_ 15
theorem b_BadBucket___init__ (S : HD sys K mg) : Binds K (fdAt K (Pl.adr K (.me "BadBucket" "__init__"))) ["self", "part"] [] := (d_BadBucket___init__ S).bindsN fun _ _ _ _ _ _ us hl => match us, hl with | [_, _], _ => rfl
theorem d_Bucket___init__ (S : HD sys K mg) : FunD K "__init__" "Bucket.__init__" (defArgs s_Bucket___init__) (defBody s_Bucket___init__) (defScope s_Bucket___init__) [] [] (Pl.adr K (.me "Bucket" "__init__")) (fdAt K (Pl.adr K (.me "Bucket" "__init__"))) := S.def_ 16
theorem b_Bucket___init__ (S : HD sys K mg) : Binds K (fdAt K (Pl.adr K (.me "Bucket" "__init__"))) ["self", "burst", "rate", "every"] [] := (d_Bucket___init__ S).bindsN fun _ _ _ _ _ _ us hl => match us, hl with | [_, _, _, _], _ => rfl
theorem d_bound_of (S : HD sys K mg) : FunD K "bound_of" "bound_of" (defArgs s_bound_of) (defBody s_bound_of) (defScope s_bound_of) [] [] (Pl.adr K (.fn "bound_of")) (fdAt K (Pl.adr K (.fn "bound_of"))) := S.def_ 17
theorem b_bound_of (S : HD sys K mg) : Binds K (fdAt K (Pl.adr K (.fn "bound_of"))) ["bucket", "ticks"] [] := (d_bound_of S).bindsN fun _ _ _ _ _ _ us hl => match us, hl with | [_, _], _ => rfl
theorem d_Bucket___call__ (S : HD sys K mg) : FunD K "__call__" "Bucket.__call__" (defArgs s_Bucket___call__) (defBody s_Bucket___call__) (defScope s_Bucket___call__) [] [] (Pl.adr K (.me "Bucket" "__call__")) (fdAt K (Pl.adr K (.me "Bucket" "__call__"))) := S.def_ 18
theorem b_Bucket___call__ (S : HD sys K mg) : Binds K (fdAt K (Pl.adr K (.me "Bucket" "__call__"))) ["self", "ticks"] [] := (d_Bucket___call__ S).bindsN fun _ _ _ _ _ _ us hl => match us, hl with | [_, _], _ => rfl
theorem d_Bucket_earliest (S : HD sys K mg) : FunD K "earliest" "Bucket.earliest" (defArgs s_Bucket_earliest) (defBody s_Bucket_earliest) (defScope s_Bucket_earliest) [] [] (Pl.adr K (.me "Bucket" "earliest")) (fdAt K (Pl.adr K (.me "Bucket" "earliest"))) := S.def_ 19
theorem b_Bucket_earliest (S : HD sys K mg) : Binds K (fdAt K (Pl.adr K (.me "Bucket" "earliest"))) ["self", "bits"] [] := (d_Bucket_earliest S).bindsN fun _ _ _ _ _ _ us hl => match us, hl with | [_, _], _ => rfl
theorem d_Bucket_rate_of (S : HD sys K mg) : FunD K "rate_of" "Bucket.rate_of" (defArgs s_Bucket_rate_of) (defBody s_Bucket_rate_of) (defScope s_Bucket_rate_of) [] [] (Pl.adr K (.pr "Bucket" "rate_of")) (fdAt K (Pl.adr K (.pr "Bucket" "rate_of"))) := S.def_ 20
theorem b_Bucket_rate_of (S : HD sys K mg) : Binds K (fdAt K (Pl.adr K (.pr "Bucket" "rate_of"))) ["self"] [] := (d_Bucket_rate_of S).bindsN fun _ _ _ _ _ _ us hl => match us, hl with | [_], _ => rfl
theorem d_Bucket_fits (S : HD sys K mg) : FunD K "fits" "Bucket.fits" (defArgs s_Bucket_fits) (defBody s_Bucket_fits) (defScope s_Bucket_fits) [] [] (Pl.adr K (.me "Bucket" "fits")) (fdAt K (Pl.adr K (.me "Bucket" "fits"))) := S.def_ 21
theorem b_Bucket_fits (S : HD sys K mg) : Binds K (fdAt K (Pl.adr K (.me "Bucket" "fits"))) ["self", "lengths"] [] := (d_Bucket_fits S).bindsN fun _ _ _ _ _ _ us hl => match us, hl with | [_, _], _ => rfl
theorem d_Bucket___eq__ (S : HD sys K mg) : FunD K "__eq__" "Bucket.__eq__" (defArgs s_Bucket___eq__) (defBody s_Bucket___eq__) (defScope s_Bucket___eq__) [] [] (Pl.adr K (.me "Bucket" "__eq__")) (fdAt K (Pl.adr K (.me "Bucket" "__eq__"))) := S.def_ 22
theorem b_Bucket___eq__ (S : HD sys K mg) : Binds K (fdAt K (Pl.adr K (.me "Bucket" "__eq__"))) ["self", "other"] [] := (d_Bucket___eq__ S).bindsN fun _ _ _ _ _ _ us hl => match us, hl with | [_, _], _ => rfl
theorem d_Bucket___str__ (S : HD sys K mg) : FunD K "__str__" "Bucket.__str__" (defArgs s_Bucket___str__) (defBody s_Bucket___str__) (defScope s_Bucket___str__) [] [] (Pl.adr K (.me "Bucket" "__str__")) (fdAt K (Pl.adr K (.me "Bucket" "__str__"))) := S.def_ 23
theorem b_Bucket___str__ (S : HD sys K mg) : Binds K (fdAt K (Pl.adr K (.me "Bucket" "__str__"))) ["self"] [] := (d_Bucket___str__ S).bindsN fun _ _ _ _ _ _ us hl => match us, hl with | [_], _ => rfl
theorem d__law_pen (S : HD sys K mg) : FunD K "_law_pen" "_law_pen" (defArgs s__law_pen) (defBody s__law_pen) (defScope s__law_pen) [] [] (Pl.adr K (.fn "_law_pen")) (fdAt K (Pl.adr K (.fn "_law_pen"))) := S.def_ 24
theorem b__law_pen (S : HD sys K mg) : Binds K (fdAt K (Pl.adr K (.fn "_law_pen"))) ["_law_script"] [] := (d__law_pen S).bindsN fun _ _ _ _ _ _ us hl => match us, hl with | [_], _ => rfl
theorem d__law_draw (S : HD sys K mg) : FunD K "_law_draw" "_law_draw" (defArgs s__law_draw) (defBody s__law_draw) (defScope s__law_draw) [] [] (Pl.adr K (.fn "_law_draw")) (fdAt K (Pl.adr K (.fn "_law_draw"))) := S.def_ 25
theorem b__law_draw (S : HD sys K mg) : Binds K (fdAt K (Pl.adr K (.fn "_law_draw"))) ["_law_pen_here", "_law_many"] [] := (d__law_draw S).bindsN fun _ _ _ _ _ _ us hl => match us, hl with | [_, _], _ => rfl
theorem d__law_pick (S : HD sys K mg) : FunD K "_law_pick" "_law_pick" (defArgs s__law_pick) (defBody s__law_pick) (defScope s__law_pick) [] [] (Pl.adr K (.fn "_law_pick")) (fdAt K (Pl.adr K (.fn "_law_pick"))) := S.def_ 26
theorem b__law_pick (S : HD sys K mg) : Binds K (fdAt K (Pl.adr K (.fn "_law_pick"))) ["_law_pen_here", "_law_some"] [] := (d__law_pick S).bindsN fun _ _ _ _ _ _ us hl => match us, hl with | [_, _], _ => rfl
theorem d__law_part (S : HD sys K mg) : FunD K "_law_part" "_law_part" (defArgs s__law_part) (defBody s__law_part) (defScope s__law_part) [] [] (Pl.adr K (.fn "_law_part")) (fdAt K (Pl.adr K (.fn "_law_part"))) := S.def_ 27
theorem b__law_part (S : HD sys K mg) : Binds K (fdAt K (Pl.adr K (.fn "_law_part"))) ["_law_pen_here", "_law_most"] [] := (d__law_part S).bindsN fun _ _ _ _ _ _ us hl => match us, hl with | [_, _], _ => rfl
theorem d__law_is_part (S : HD sys K mg) : FunD K "_law_is_part" "_law_is_part" (defArgs s__law_is_part) (defBody s__law_is_part) (defScope s__law_is_part) [] [] (Pl.adr K (.fn "_law_is_part")) (fdAt K (Pl.adr K (.fn "_law_is_part"))) := S.def_ 28
theorem b__law_is_part (S : HD sys K mg) : Binds K (fdAt K (Pl.adr K (.fn "_law_is_part"))) ["_law_value", "_law_most"] [] := (d__law_is_part S).bindsN fun _ _ _ _ _ _ us hl => match us, hl with | [_, _], _ => rfl
theorem d__law_due (S : HD sys K mg) : FunD K "_law_due" "_law_due" (defArgs s__law_due) (defBody s__law_due) (defScope s__law_due) [] [] (Pl.adr K (.fn "_law_due")) (fdAt K (Pl.adr K (.fn "_law_due"))) := S.def_ 29
theorem b__law_due (S : HD sys K mg) : Binds K (fdAt K (Pl.adr K (.fn "_law_due"))) ["_law_parts"] [] := (d__law_due S).bindsN fun _ _ _ _ _ _ us hl => match us, hl with | [_], _ => rfl
theorem d__law_numbers_right (S : HD sys K mg) : FunD K "_law_numbers_right" "_law_numbers_right" (defArgs s__law_numbers_right) (defBody s__law_numbers_right) (defScope s__law_numbers_right) [] [] (Pl.adr K (.fn "_law_numbers_right")) (fdAt K (Pl.adr K (.fn "_law_numbers_right"))) := S.def_ 30
theorem b__law_numbers_right (S : HD sys K mg) : Binds K (fdAt K (Pl.adr K (.fn "_law_numbers_right"))) ["_law_pen_here", "_law_made", "_law_parts"] [] := (d__law_numbers_right S).bindsN fun _ _ _ _ _ _ us hl => match us, hl with | [_, _, _], _ => rfl
theorem d__law_others_right (S : HD sys K mg) : FunD K "_law_others_right" "_law_others_right" (defArgs s__law_others_right) (defBody s__law_others_right) (defScope s__law_others_right) [] [] (Pl.adr K (.fn "_law_others_right")) (fdAt K (Pl.adr K (.fn "_law_others_right"))) := S.def_ 31
theorem b__law_others_right (S : HD sys K mg) : Binds K (fdAt K (Pl.adr K (.fn "_law_others_right"))) ["_law_pen_here", "_law_made", "_law_parts"] [] := (d__law_others_right S).bindsN fun _ _ _ _ _ _ us hl => match us, hl with | [_, _, _], _ => rfl
theorem d_law (S : HD sys K mg) : FunD K "law" "law" (defArgs s_law) (defBody s_law) (defScope s_law) [] [] (Pl.adr K (.fn "law")) (fdAt K (Pl.adr K (.fn "law"))) := S.def_ 32
theorem b_law (S : HD sys K mg) : Binds K (fdAt K (Pl.adr K (.fn "law"))) ["_law_script"] [] := (d_law S).bindsN fun _ _ _ _ _ _ us hl => match us, hl with | [_], _ => rfl
theorem d__law_heard (S : HD sys K mg) : FunD K "_law_heard" "_law_heard" (defArgs s__law_heard) (defBody s__law_heard) (defScope s__law_heard) [] [] (Pl.adr K (.fn "_law_heard")) (fdAt K (Pl.adr K (.fn "_law_heard"))) := S.def_ 33
theorem b__law_heard (S : HD sys K mg) : Binds K (fdAt K (Pl.adr K (.fn "_law_heard"))) ["_law_ask"] [] := (d__law_heard S).bindsN fun _ _ _ _ _ _ us hl => match us, hl with | [_], _ => rfl
end
section
variable {K : PySem.W.Frag} {mg : Str → Option Value}
/-! ### checks of any value -/
def NoStr (K : PySem.W.Frag) (H : Hp) (v : V) : Prop := ∃ t : Value, TyX K H v t ∧ PySem.W.kitOne K t (.type "str") = some false
def NoInt (K : PySem.W.Frag) (H : Hp) (v : V) : Prop := ∃ (t : Value) (bi bb : Bool), TyX K H v t ∧ PySem.W.kitOne K t (.type "int") = some bi ∧ PySem.W.kitOne K t (.type "bool") = some bb ∧ (bi && !bb) = false
def spIsInt (K : PySem.W.Frag) : Sp := fun vs H Q _ => ∃ (x : V) (t : Value) (bi bb : Bool), vs = [x] ∧ TyX K H x t ∧ PySem.W.kitOne K t (.type "int") = some bi ∧ PySem.W.kitOne K t (.type "bool") = some bb ∧
  Q (.bl (bi && !bb)) H
theorem isInt_int {K : PySem.W.Frag} {H : Hp} {Q : VK} {E : XK} {i : Int} (k : Q (.bl true) H) : spIsInt K [.int i] H Q E :=
  ⟨_, _, true, false, rfl, .base (.int i), kit_ty (by decide +kernel), kit_ty (by decide +kernel), k⟩
theorem isInt_no {K : PySem.W.Frag} {H : Hp} {Q : VK} {E : XK} {v : V} (h : NoInt K H v) (k : Q (.bl false) H) : spIsInt K [v] H Q E := by
  obtain ⟨t, bi, bb, ty, k1, k2, k3⟩ := h
  refine ⟨_, _, bi, bb, rfl, ty, k1, k2, ?_⟩
  rw [k3]
  exact k
theorem fk_cl_is_integer {P : Program} {w : World} {base : Heap} (S : HD sys K mg) : FnOk P w K mg base CX0 1 (Pl.adr K (Pl.fn "is_integer")) (fdAt K (Pl.adr K (Pl.fn "is_integer"))) ["value"] (spIsInt K) := by
  refine (d_is_integer S).ok sc_is_integer (fun vs H Q E h => ?_) (fun cdv A outer s H vs Q E hr h => ?_)
  · repeat (first | (obtain ⟨rfl, _⟩ := h; rfl) | (obtain ⟨_, h⟩ := h))
  · have nd := sc_is_integer.nd
    refine ⟨_, PSs.nox ((pss_one (ps_ret (pe_and (pe_callB call_isi (by rfl) (n_isinstance S) (by decide +kernel) (pa_cons (pv 0) (pa_cons (pe_bltn (v := .ty "int") (by rfl) (n_int S) (by decide +kernel) rfl) pa_nil))) (pe_one (pe_not (pe_callB call_isi (by rfl) (n_isinstance S) (by decide +kernel) (pa_cons (pv 0) (pa_cons (pe_bltn (v := .ty "bool") (by rfl) (n_bool S) (by decide +kernel) rfl) pa_nil))))))))), ?_⟩
    try dsimp only [cxOf_K]
    obtain ⟨x, t, bi, bb, rfl, ty, k1, k2, k⟩ := h
    refine go_start (σ' := [_]) rfl ?_
    walk_at "go"
    refine go_isi (.ty "int") ty k1 ?_
    walk_at "go"
    cases bi with
    | true =>
      walk_at "go"
      refine go_isi (.ty "bool") ty k2 ?_
      walk_at "go"
      exact k
    | false =>
      walk_at "go"
      exact k
theorem cl_is_integer {P : Program} {w : World} {base : Heap} (S : HD sys K mg) : Cl P w K mg base CX0 1 "is_integer" (spIsInt K) := ⟨_, _, _, (fk_cl_is_integer S), g_is_integer S, (d_is_integer S).kp, b_is_integer S⟩
/-- an integer between two, or none -/
def spWithin (K : PySem.W.Frag) : Sp := fun vs H Q _ => ∃ (x : V) (lo hi : Int), vs = [x, .int lo, .int hi] ∧ ((∃ v : Int, x = .int v ∧ Q (.bl (decide (lo ≤ v) && decide (v ≤ hi))) H) ∨ (NoInt K H x ∧ Q (.bl false) H))
theorem fk_cl_is_within {P : Program} {w : World} {base : Heap} (S : HD sys K mg) : FnOk P w K mg base CX0 2 (Pl.adr K (Pl.fn "is_within")) (fdAt K (Pl.adr K (Pl.fn "is_within"))) ["value", "least", "most"] (spWithin K) := by
  refine (d_is_within S).ok sc_is_within (fun vs H Q E h => ?_) (fun cdv A outer s H vs Q E hr h => ?_)
  · repeat (first | (obtain ⟨rfl, _⟩ := h; rfl) | (obtain ⟨_, h⟩ := h))
  · have nd := sc_is_within.nd
    refine ⟨_, PSs.nox ((pss_one (ps_ret (pe_and (pe_f (cl_is_integer S) hr (by decide) pass0 (pa_cons (pv 0) pa_nil)) (pe_one (pe_chain op_le op_le (pv 1) (pv 0) (pv 2))))))), ?_⟩
    try dsimp only [cxOf_K]
    obtain ⟨x, lo, hi, rfl, ⟨v, rfl, k⟩ | ⟨hn, k⟩⟩ := h
    · refine go_start (σ' := [_, _, _]) rfl ?_
      walk_at "go"
      refine isInt_int ?_
      walk_at "go"
      refine go_dec (fun h1 => ?_) (fun h1 => ?_)
      · walk_at "go"
        rw [decide_eq_true h1, Bool.true_and] at k
        exact k
      · walk_at "go"
        rw [decide_eq_false h1, Bool.false_and] at k
        exact k
    · refine go_start (σ' := [_, _, _]) rfl ?_
      walk_at "go"
      refine isInt_no hn ?_
      walk_at "go"
      exact k
theorem cl_is_within {P : Program} {w : World} {base : Heap} (S : HD sys K mg) : Cl P w K mg base CX0 2 "is_within" (spWithin K) := ⟨_, _, _, (fk_cl_is_within S), g_is_within S, (d_is_within S).kp, b_is_within S⟩
theorem within_yes {H : Hp} {Q : VK} {E : XK} {v lo hi : Int} (h1 : lo ≤ v) (h2 : v ≤ hi) (k : Q (.bl true) H) : spWithin K [.int v, .int lo, .int hi] H Q E :=
  ⟨_, lo, hi, rfl, .inl ⟨v, rfl, by rw [decide_eq_true h1, decide_eq_true h2]; exact k⟩⟩
theorem within_no {H : Hp} {Q : VK} {E : XK} {x : V} {lo hi : Int} (h : (∃ v : Int, x = .int v ∧ (v < lo ∨ hi < v)) ∨ NoInt K H x) (k : Q (.bl false) H) : spWithin K [x, .int lo, .int hi] H Q E := by
  rcases h with ⟨v, rfl, h⟩ | h
  · refine ⟨_, lo, hi, rfl, .inl ⟨v, rfl, ?_⟩⟩
    have : (decide (lo ≤ v) && decide (v ≤ hi)) = false := by
      rw [Bool.and_eq_false_iff, decide_eq_false_iff_not, decide_eq_false_iff_not]
      omega
    rw [this]
    exact k
  · exact ⟨_, lo, hi, rfl, .inr ⟨h, k⟩⟩
theorem odd_noint {H : Hp} {v : V} {n : String} (h : OddV H v n) (ni : ∀ i, v ≠ .int i) : NoInt K H v := by
  have ty := h.ty (K := K)
  cases h with
  | int i => exact absurd rfl (ni i)
  | non => exact ⟨_, false, false, ty, kit_ty (by decide +kernel), kit_ty (by decide +kernel), rfl⟩
  | bl b => exact ⟨_, true, true, ty, kit_ty (by decide +kernel), kit_ty (by decide +kernel), rfl⟩
  | str s => exact ⟨_, false, false, ty, kit_ty (by decide +kernel), kit_ty (by decide +kernel), rfl⟩
  | lst e => exact ⟨_, false, false, ty, kit_ty (by decide +kernel), kit_ty (by decide +kernel), rfl⟩
  | tup e => exact ⟨_, false, false, ty, kit_ty (by decide +kernel), kit_ty (by decide +kernel), rfl⟩
  | dK e => exact ⟨_, false, false, ty, kit_ty (by decide +kernel), kit_ty (by decide +kernel), rfl⟩
theorem odd_nostr {H : Hp} {v : V} {n : String} (h : OddV H v n) (ns : ∀ z, v ≠ .str z) : NoStr K H v := by
  have ty := h.ty (K := K)
  cases h with
  | str s => exact absurd rfl (ns s)
  | non => exact ⟨_, ty, kit_ty (by decide +kernel)⟩
  | bl b => exact ⟨_, ty, kit_ty (by decide +kernel)⟩
  | int i => exact ⟨_, ty, kit_ty (by decide +kernel)⟩
  | lst e => exact ⟨_, ty, kit_ty (by decide +kernel)⟩
  | tup e => exact ⟨_, ty, kit_ty (by decide +kernel)⟩
  | dK e => exact ⟨_, ty, kit_ty (by decide +kernel)⟩
/-! ### lengths: checks -/
def lenB : V → Bool
  | .int i => decide (1 ≤ i) && decide (i ≤ 60)
  | _ => false
def IntOrNo (K : PySem.W.Frag) (H : Hp) (v : V) : Prop := (∃ i, v = .int i) ∨ (NoInt K H v ∧ ∀ i, v ≠ .int i)
theorem IntOrNo.same {H H' : Hp} {v : V} (h : IntOrNo K H v) (s : Same H H') : IntOrNo K H' v := by
  rcases h with h | ⟨⟨t, bi, bb, ty, k⟩, n⟩
  · exact .inl h
  · exact .inr ⟨⟨t, bi, bb, tyX_same ty s, k⟩, n⟩
def spIsLen (K : PySem.W.Frag) : Sp := fun vs H Q _ => ∃ v : V, vs = [v] ∧ IntOrNo K H v ∧ Q (.bl (lenB v)) H
theorem fk_cl_is_length {P : Program} {w : World} {base : Heap} (S : HD sys K mg) : FnOk P w K mg base CX0 3 (Pl.adr K (Pl.fn "is_length")) (fdAt K (Pl.adr K (Pl.fn "is_length"))) ["value"] (spIsLen K) := by
  refine (d_is_length S).ok sc_is_length (fun vs H Q E h => ?_) (fun cdv A outer s H vs Q E hr h => ?_)
  · repeat (first | (obtain ⟨rfl, _⟩ := h; rfl) | (obtain ⟨_, h⟩ := h))
  · have nd := sc_is_length.nd
    refine ⟨_, PSs.nox ((pss_one (ps_ret (pe_f (cl_is_within S) hr (by decide) pass0 (pa_cons (pv 0) (pa_cons pe_int (pa_cons (ClX.pe_cval (pe_glob (v := .ref (ga K "Lengths")) rfl (g_Lengths S) rfl)) pa_nil))))))), ?_⟩
    try dsimp only [cxOf_K]
    have crLengths := cr_Lengths S
    obtain ⟨_, cvLengthsMOST⟩ := cv_Lengths_MOST S
    obtain ⟨v, rfl, ⟨i, rfl⟩ | ⟨hn, ni⟩, k⟩ := h
    · refine go_start (σ' := [_]) rfl ?_
      walk_at "gm"
      exact ⟨_, 1, 60, rfl, .inl ⟨i, rfl, k⟩⟩
    · refine go_start (σ' := [_]) rfl ?_
      walk_at "gm"
      refine ⟨_, 1, 60, rfl, .inr ⟨hn, ?_⟩⟩
      cases v with
      | int i => exact absurd rfl (ni i)
      | _ => exact k
theorem cl_is_length {P : Program} {w : World} {base : Heap} (S : HD sys K mg) : Cl P w K mg base CX0 3 "is_length" (spIsLen K) := ⟨_, _, _, (fk_cl_is_length S), g_is_length S, (d_is_length S).kp, b_is_length S⟩
def spDivisorOf : Sp := fun vs H Q _ => ∃ (a : Addr) (ns : List Nat), vs = [.ref a] ∧ H a = some (.tup (ns.map fun n => V.int (n : Nat))) ∧ Q (.int (Ln.gcdl ns : Nat)) H
theorem fk_cl_divisor_of {P : Program} {w : World} {base : Heap} (S : HD sys K mg) : FnOk P w K mg base CX0 1 (Pl.adr K (Pl.fn "divisor_of")) (fdAt K (Pl.adr K (Pl.fn "divisor_of"))) ["numbers"] (spDivisorOf) := by
  refine (d_divisor_of S).ok sc_divisor_of (fun vs H Q E h => ?_) (fun cdv A outer s H vs Q E hr h => ?_)
  · repeat (first | (obtain ⟨rfl, _⟩ := h; rfl) | (obtain ⟨_, h⟩ := h))
  · have nd := sc_divisor_of.nd
    refine ⟨_, PSs.nox ((pss_cons (ps_set (i := 1) nd rfl (Or.inl rfl) pe_int)
    (pss_cons (ps_for PassesOwn.never rfl (pi_tup (pv 0)) (pg_name (i := 2) nd rfl (Or.inl rfl))
      (pss_one (ps_set (i := 1) nd rfl (Or.inl rfl) (pe_callBfun cr_gcd (by rfl) (bf_gcd S) (pa_cons (pv 1) (pa_cons (pv 2) pa_nil))))))
    (pss_one (ps_ret (pv 1)))))), ?_⟩
    try dsimp only [cxOf_K]
    obtain ⟨a, ns, rfl, ha, k⟩ := h
    refine go_start (σ' := [_, none, none]) rfl ?_
    walk_at "gm"
    refine forTup (xs := ns.map fun n => V.int (n : Nat)) (fun i σ' H' => H' = H ∧ ∃ v, σ' = [some (.ref a), some (.int ((ns.take i).foldl Nat.gcd 0 : Nat)), v]) ⟨rfl, none, rfl⟩ (fun i σ' H' _ ⟨e, _⟩ => by subst e; exact .of ha) ?_ ?_
    · rintro i x σ' H' hi ⟨rfl, v, rfl⟩
      rw [List.getElem?_map] at hi
      obtain ⟨n, hn, rfl⟩ := Option.map_eq_some_iff.mp hi
      walk_at "gm"
      refine ⟨rfl, some (.int (n : Nat)), ?_⟩
      rw [List.take_add_one, hn, List.foldl_append]
      rfl
    · rintro σ' H' ⟨rfl, v, rfl⟩
      walk_at "gm"
      rw [List.length_map, List.take_length]
      exact k
theorem cl_divisor_of {P : Program} {w : World} {base : Heap} (S : HD sys K mg) : Cl P w K mg base CX0 1 "divisor_of" (spDivisorOf) := ⟨_, _, _, (fk_cl_divisor_of S), g_divisor_of S, (d_divisor_of S).kp, b_divisor_of S⟩
/-! ### the tables of least sums -/
def ov : Option Nat → V
  | none => .non
  | some n => .int (n : Nat)
def rowV (r : Ln.Row) : List V := r.map ov
abbrev natV (ns : List Nat) : List V := ns.map fun n => V.int (n : Nat)
theorem row_at {r : Ln.Row} {i : Nat} {o : Option Nat} (h : r[i]? = some o) : atI (rowV r) (i : Int) = some (ov o) := atN (by unfold rowV; rw [List.getElem?_map, h]; rfl)
theorem row_set {r : Ln.Row} {i n : Nat} : (rowV r).set i (.int (n : Nat)) = rowV (r.set i (some n)) := by
  unfold rowV
  rw [List.map_set]
  rfl
theorem row_len {r : Ln.Row} : (rowV r).length = r.length := List.length_map _
def spLeast : Sp := fun vs H Q _ => ∃ (a : Addr) (m : Nat) (ls : List Nat), vs = [.ref a] ∧ H a = some (.tup (natV (m :: ls))) ∧ (0 < m ∧ m ≤ 60) ∧ (∀ l ∈ ls, 0 < l ∧ l ≤ 60) ∧ ls.length ≤ 100 ∧
  ∀ p r1 r2 H', H p = none → H r1 = none → H r2 = none → Same H H' → H' p = some (.tup [.ref r1, .ref r2]) → H' r1 = some (.tup (rowV (Ln.table (m :: ls)).1)) → H' r2 = some (.tup (rowV (Ln.table (m :: ls)).2)) → Q (.ref p) H'
theorem fk_cl_least_sums {P : Program} {w : World} {base : Heap} (S : HD sys K mg) : FnOk P w K mg base CX0 1 (Pl.adr K (Pl.fn "least_sums")) (fdAt K (Pl.adr K (Pl.fn "least_sums"))) ["numbers"] (spLeast) := by
  refine (d_least_sums S).ok sc_least_sums (fun vs H Q E h => ?_) (fun cdv A outer s H vs Q E hr h => ?_)
  · repeat (first | (obtain ⟨rfl, _⟩ := h; rfl) | (obtain ⟨_, h⟩ := h))
  · have nd := sc_least_sums.nd
    refine ⟨_, PSs.nox ((pss_cons (ps_set (i := 1) nd rfl (Or.inl rfl) (pe_ix ix_tup (pv 0) pe_int (fun _ _ => rfl)))
    (pss_cons (ps_setLc (i := 3) (own := [("_", 2)]) (g := gName 2) (by rfl) nd rfl rfl (sw_true rfl rfl rfl (by decide +kernel)) (pi_range1 (by rfl) (n_range S) (pa_cons (pv 1) pa_nil)) (blkOk_by (own := [("_", 2)]) (N := ["numbers", "shortest", "_", "rows", "lasts", "length", "circles", "first", "rest", "goal"]) (sc := defScope s_least_sums) (by decide +kernel)) (fun _ _ _ _ _ => (pg_name (i := 2) nd rfl (Or.inl rfl))) (fun _ _ _ _ _ => pts_nil) (fun _ _ _ _ _ => pe_non))
    (pss_cons (ps_asg pe_int (pg_sub (pv 3) pe_int set_list))
    (pss_cons (ps_setLc (i := 4) (own := [("_", 2)]) (g := gName 2) (by rfl) nd rfl rfl (sw_true rfl rfl rfl (by decide +kernel)) (pi_range1 (by rfl) (n_range S) (pa_cons (pv 1) pa_nil)) (blkOk_by (own := [("_", 2)]) (N := ["numbers", "shortest", "_", "rows", "lasts", "length", "circles", "first", "rest", "goal"]) (sc := defScope s_least_sums) (by decide +kernel)) (fun _ _ _ _ _ => (pg_name (i := 2) nd rfl (Or.inl rfl))) (fun _ _ _ _ _ => pts_nil) (fun _ _ _ _ _ => pe_non))
    (pss_cons (ps_for PassesOwn.never rfl (pi_tup (pe_slice sl_tupA (pv 0) (po_some pe_int) po_none)) (pg_name (i := 5) nd rfl (Or.inl rfl))
      (pss_cons (ps_set (i := 6) nd rfl (Or.inl rfl) (pe_callBfun cr_gcd (by rfl) (bf_gcd S) (pa_cons (pv 5) (pa_cons (pv 1) pa_nil))))
    (pss_one (ps_for PassesOwn.never rfl (pi_range1 (by rfl) (n_range S) (pa_cons (pv 6) pa_nil)) (pg_name (i := 7) nd rfl (Or.inl rfl))
      (pss_cons (ps_set (i := 8) nd rfl (Or.inl rfl) (pv 7))
    (pss_one (ps_for PassesOwn.never rfl (pi_range1 (by rfl) (n_range S) (pa_cons (pe_op op_mul pe_int (pe_op op_fdiv (pv 1) (pv 6))) pa_nil)) (pg_name (i := 2) nd rfl (Or.inl rfl))
      (pss_cons (ps_set (i := 9) nd rfl (Or.inl rfl) (pe_op op_mod (pe_op op_add (pv 8) (pv 5)) (pv 1)))
    (pss_cons (ps_mark (ps_if (PW.pt (pw_and (pt_cmpR op_notN1 (pe_ix ix_list (pv 3) (pv 8) (fun _ _ => rfl)) pe_non (nomark _)) (pw_and1 (PW.pt (pw_or (pt_cmpR op_isN1 (pe_ix ix_list (pv 3) (pv 9) (fun _ _ => rfl)) pe_non (nomark _)) (pw_or1 (pt_cmpR op_lt (pe_op op_add (pe_ix ix_list (pv 3) (pv 8) (fun _ _ => rfl)) (pv 5)) (pe_ix ix_list (pv 3) (pv 9) (fun _ _ => rfl)) (nomark _)))))))) (pss_cons (ps_asg (pe_op op_add (pe_ix ix_list (pv 3) (pv 8) (fun _ _ => rfl)) (pv 5)) (pg_sub (pv 3) (pv 9) set_list))
    (pss_one (ps_asg (pv 5) (pg_sub (pv 4) (pv 9) set_list)))) pss_nil))
    (pss_one (ps_set (i := 8) nd rfl (Or.inl rfl) (pv 9))))))))))))
    (pss_one (ps_ret (pe_tup (pa_cons (pe_callTy call_tupOf (by rfl) (n_tuple S) (by decide +kernel) (pa_cons (pv 3) pa_nil)) (pa_cons (pe_callTy call_tupOf (by rfl) (n_tuple S) (by decide +kernel) (pa_cons (pv 4) pa_nil)) pa_nil))))))))))), ?_⟩
    try dsimp only [cxOf_K]
    obtain ⟨a, m, ls, rfl, ha, ⟨m0, m1⟩, hls, hln, k⟩ := h
    have ha' : H a = some (.tup (V.int (m : Nat) :: natV ls)) := ha
    refine go_start (σ' := [_, none, none, none, none, none, none, none, none, none]) rfl ?_
    walk_at "gm"
    refine go_ixt (.of ha') (v := .int (m : Nat)) (atN (n := 0) rfl) ?_
    walk_at "gm"
    rw [Int.toNat_natCast]
    have en : (List.range m).map (fun _ => V.non) = rowV (List.replicate m none) := by
      unfold rowV
      rw [List.map_replicate, List.map_const', List.length_range]
      rfl
    refine lcRange (fun _ => V.non) (by omega) (fun _ => rfl) (fun i H' Q' hi s k' => ?_) (fun ra H1 nra s1 hra => ?_)
    · walk_at "gm"
      exact k' H' (Same.refl _)
    rw [en] at hra
    walk_at "gm"
    refine go_setL hra (j := 0) (xs' := rowV (Ln.start m).1) (by rw [row_len, List.length_replicate]; exact ixNat (j := 0) m0) (row_set (n := 0)) ?_
    refine put_gm (R := fun H' => _) fun H2 k2 hra2 => ?_
    walk_at "gm"
    rw [Int.toNat_natCast]
    refine lcRange (fun _ => V.non) (by omega) (fun _ => rfl) (fun i H' Q' hi s k' => ?_) (fun la H3 nla s3 hla => ?_)
    · walk_at "gm"
      exact k' H' (Same.refl _)
    rw [en] at hla
    have hra3 := s3 _ _ hra2
    have ral : ra ≠ la := fun q => by rw [← q, hra2] at nla; cases nla
    have e2 : Ln.start m = ((Ln.start m).1, List.replicate m none) := rfl
    have nlaH : H la = none := by
      refine no_sm s1 ?_
      cases q : H1 la with
      | none => rfl
      | some o =>
        have := k2 _ _ q (Ne.symm ral)
        rw [nla] at this
        cases this
    have sH3 : Same H H3 := fun b o h => s3 b o (k2 b o (s1 b o h) (fun q => by rw [q, nra] at h; cases h))
    walk_at "gm"
    refine slA_rest (.of (sH3 _ _ ha')) fun sa H4 nsa s4 hsa => ?_
    have hra4 := s4 _ _ hra3
    have hla4 := s4 _ _ hla
    have nraH : H ra = none := nra
    walk_at "gm"
    -- what stands while the tables are made
    let T : Ln.St → Hp → Prop := fun x H' => Same H H' ∧ H' ra = some (.lst (rowV x.1)) ∧ H' la = some (.lst (rowV x.2)) ∧ H' sa = some (.tup (natV ls))
    have tset : ∀ (x : Ln.St) (y : Ln.St) (H' : Hp), T x H' → T y (upd (upd H' ra (.lst (rowV y.1))) la (.lst (rowV y.2))) := fun x y H' ⟨t1, t2, t3, t4⟩ => by
      refine ⟨fun b o h => ?_, ?_, upd_same, ?_⟩
      · rw [upd_ne (fun q => by rw [q, nlaH] at h; cases h), upd_ne (fun q => by rw [q, nraH] at h; cases h)]
        exact t1 b o h
      · rw [upd_ne ral]
        exact upd_same
      · rw [upd_ne (fun q => by rw [q, t3] at t4; cases t4), upd_ne (fun q => by rw [q, t2] at t4; cases t4)]
        exact t4
    refine forTup (xs := natV ls) (fun i σ' H' => T ((ls.take i).foldl (fun x l => Ln.one m l x) (Ln.start m)) H' ∧ ∃ u2 u5 u6 u7 u8 u9, σ' = [some (.ref a), some (.int (m : Nat)), u2, some (.ref ra), some (.ref la), u5, u6, u7, u8, u9])
      ⟨⟨sH3.trans s4, hra4, hla4, hsa⟩, _, _, _, _, _, _, rfl⟩ (fun i σ' H' _ ⟨h, _⟩ => .of h.2.2.2) ?_ ?_
    · rintro i x σ' H' hi ⟨hT, u2, u5, u6, u7, u8, u9, rfl⟩
      rw [List.getElem?_map] at hi
      obtain ⟨l, hl, rfl⟩ := Option.map_eq_some_iff.mp hi
      have l0 := hls l (List.mem_of_getElem? hl)
      rw [List.take_add_one, hl, List.foldl_append]
      show _
      have hLX := Ln.Len2.fold (k := m) (ls.take i) (Ln.Len2.start (m := m))
      generalize (ls.take i).foldl (fun x l => Ln.one m l x) (Ln.start m) = X at hT hLX ⊢
      have d0 : 0 < Nat.gcd l m := Nat.gcd_pos_of_pos_right l m0
      have dm : Nat.gcd l m ≤ m := Nat.gcd_le_right l m0
      have ed : gc (l : Nat) (m : Nat) = (Nat.gcd l m : Nat) := rfl
      have LX : Ln.Len2 m X := hLX
      walk_at "gm"
      rw [ed]
      walk_at "gm"
      rw [Int.toNat_natCast]
      refine forRange (fun c σ' H' => T (Ln.circs m l (2 * (m / Nat.gcd l m)) c X) H' ∧ ∃ u2 u7 u8 u9, σ' = [some (.ref a), some (.int (m : Nat)), u2, some (.ref ra), some (.ref la), some (.int (l : Nat)), some (.int (Nat.gcd l m : Nat)), u7, u8, u9]) ⟨hT, _, _, _, _, rfl⟩ ?_ ?_
      · rintro c σ' H' hc ⟨hT, u2, u7, u8, u9, rfl⟩
        have LY := LX.circs (k := m) (l := l) (n := 2 * (m / Nat.gcd l m)) c
        show _
        generalize hd : Nat.gcd l m = d at *
        rw [show Ln.circs m l (2 * (m / d)) (c + 1) X = Ln.goes m l c (2 * (m / d)) (Ln.circs m l (2 * (m / d)) c X) from rfl]
        generalize Ln.circs m l (2 * (m / d)) c X = Y at hT LY ⊢
        have q0 : 0 ≤ (m : Int) / (d : Int) := Int.natCast_ediv m d ▸ Int.natCast_nonneg _
        have q1 : (m : Int) / (d : Int) ≤ 60 := by
          rw [← Int.natCast_ediv]
          have := Nat.div_le_self m d
          omega
        walk_at "gm"
        have et : (2 * ((m : Int) / (d : Int))).toNat = 2 * (m / d) := by
          rw [← Int.natCast_ediv]
          omega
        rw [et, Int.zero_add]
        refine forRange (fun t σ' H' => T (Ln.goes m l c t Y) H' ∧ ∃ u2 u9, σ' = [some (.ref a), some (.int (m : Nat)), u2, some (.ref ra), some (.ref la), some (.int (l : Nat)), some (.int (d : Nat)), some (.int (c : Nat)), some (.int ((c + t * l) % m : Nat)), u9]) ⟨hT, u2, u9, by rw [Nat.zero_mul, Nat.add_zero, Nat.mod_eq_of_lt (show c < m by omega)]⟩ ?_ ?_
        · rintro t σ' H' ht ⟨hT, u2, u9, rfl⟩
          have LZ := LY.goes (k := m) (l := l) (c := c) t
          rw [show Ln.goes m l c (t + 1) Y = Ln.step m l (Ln.goes m l c t Y) ((c + t * l) % m) from rfl]
          generalize Ln.goes m l c t Y = Z at hT LZ ⊢
          have er : (c + (t + 1) * l) % m = ((c + t * l) % m + l) % m := by rw [Nat.mod_add_mod, Nat.succ_mul, Nat.add_assoc]
          rw [er]
          have hr : (c + t * l) % m < m := Nat.mod_lt _ m0
          generalize (c + t * l) % m = r at hr ⊢
          have hg : (r + l) % m < m := Nat.mod_lt _ m0
          have eg : ((r : Int) + (l : Int)) % (m : Int) = ((r + l) % m : Nat) := by rw [Int.natCast_emod, Int.natCast_add]
          walk_at "gm"
          rw [eg]
          generalize hgo : (r + l) % m = g at hg ⊢
          refine mark_R (fun σ' H' => T (Ln.step m l Z r) H' ∧ σ' = [some (.ref a), some (.int (m : Nat)), some (.int (0 + (t : Nat))), some (.ref ra), some (.ref la), some (.int (l : Nat)), some (.int (d : Nat)), some (.int (c : Nat)), some (.int (r : Nat)), some (.int (g : Nat))]) ?_ ?_
          · rintro σ' H' ⟨hT, rfl⟩
            walk_at "gm"
            exact ⟨hT, _, _, rfl⟩
          · intro cont
            obtain ⟨t1, t2, t3, t4⟩ := id hT
            have stay : Ln.better Z.1 r g l = false → T (Ln.step m l Z r) H' := fun h => by
              have e : Ln.step m l Z r = Z := by
                unfold Ln.step
                rw [hgo, if_neg (by rw [h]; exact Bool.false_ne_true)]
              rw [e]
              exact hT
            obtain ⟨o, ho⟩ : ∃ o, Z.1[r]? = some o := ⟨_, List.getElem?_eq_getElem (by rw [LZ.a]; exact hr)⟩
            obtain ⟨o2, ho2⟩ : ∃ o, Z.1[g]? = some o := ⟨_, List.getElem?_eq_getElem (by rw [LZ.a]; exact hg)⟩
            walk_at "gm"
            cases o with
            | none =>
              refine go_ixl (.of t2) (v := .non) (row_at ho) ?_
              walk_at "gm"
              exact ⟨stay (by unfold Ln.better; rw [ho]), _, _, rfl⟩
            | some s =>
              have put : Ln.better Z.1 r g l = true → T (Ln.step m l Z r) (upd (upd H' ra (.lst (rowV (Z.1.set g (some (s + l)))))) la (.lst (rowV (Z.2.set g (some l))))) := fun h => by
                have e : Ln.step m l Z r = (Z.1.set g (some (s + l)), Z.2.set g (some l)) := by
                  unfold Ln.step
                  rw [hgo, if_pos h, ho]
                  rfl
                rw [e]
                exact tset Z (Z.1.set g (some (s + l)), Z.2.set g (some l)) H' hT
              have ij1 : ixN (rowV Z.1).length (g : Int) = some g := by rw [row_len, LZ.a]; exact ixNat hg
              have ij2 : ixN (rowV Z.2).length (g : Int) = some g := by rw [row_len, LZ.b]; exact ixNat hg
              have la1 : upd H' ra (.lst (rowV (Z.1.set g (some (s + l))))) la = some (.lst (rowV Z.2)) := (upd_ne (Ne.symm ral)).trans t3
              have es : (V.int ((s : Nat) + (l : Nat)) : V) = .int ((s + l : Nat)) := by rw [Int.natCast_add]
              have hos : atI (rowV Z.1) (r : Int) = some (V.int (s : Nat)) := row_at ho
              refine go_ixl (.of t2) hos ?_
              walk_at "gm"
              cases o2 with
              | none =>
                refine go_ixl (.of t2) (v := .non) (row_at ho2) ?_
                walk_at "gm"
                refine go_ixl (.of t2) hos ?_
                walk_at "gm"
                refine go_setL (xs' := rowV (Z.1.set g (some (s + l)))) t2 ij1 (by rw [es]; exact row_set) ?_
                walk_at "gm"
                refine go_setL (xs' := rowV (Z.2.set g (some l))) la1 ij2 row_set ?_
                exact cont _ _ ⟨put (by unfold Ln.better; rw [ho, ho2]), rfl⟩
              | some g' =>
                have hos2 : atI (rowV Z.1) (g : Int) = some (V.int (g' : Nat)) := row_at ho2
                refine go_ixl (.of t2) hos2 ?_
                walk_at "gm"
                refine go_ixl (.of t2) hos ?_
                walk_at "gm"
                refine go_ixl (.of t2) hos2 ?_
                walk_at "gm"
                refine go_dec (fun z => ?_) (fun z => ?_)
                · walk_at "gm"
                  refine go_ixl (.of t2) hos ?_
                  walk_at "gm"
                  refine go_setL (xs' := rowV (Z.1.set g (some (s + l)))) t2 ij1 (by rw [es]; exact row_set) ?_
                  walk_at "gm"
                  refine go_setL (xs' := rowV (Z.2.set g (some l))) la1 ij2 row_set ?_
                  exact cont _ _ ⟨put (by unfold Ln.better; rw [ho, ho2]; exact decide_eq_true (by omega)), rfl⟩
                · walk_at "gm"
                  exact ⟨stay (by unfold Ln.better; rw [ho, ho2]; exact decide_eq_false (by omega)), _, _, rfl⟩
        · rintro σ' H' ⟨hT, u2, u9, rfl⟩
          walk_at "gm"
          exact ⟨hT, _, _, _, _, rfl⟩
      · rintro σ' H' ⟨hT, u2, u7, u8, u9, rfl⟩
        walk_at "gm"
        exact ⟨hT, _, _, _, _, _, _, rfl⟩
    · rintro σ' H' ⟨hT, u2, u5, u6, u7, u8, u9, rfl⟩
      rw [List.length_map, List.take_length] at hT
      obtain ⟨t1, t2, t3, t4⟩ := hT
      walk_at "gm"
      refine go_tupofL (.of t2) fun r1 G1 n1 q1 hr1 => ?_
      walk_at "gm"
      refine go_tupofL (.of (q1 _ _ t3)) fun r2 G2 n2 q2 hr2 => ?_
      walk_at "gm"
      rename_i p H6 np s6 hp
      exact k p r1 r2 H6 (no_sm t1 (no_sm q1 (no_sm q2 np))) (no_sm t1 n1) (no_sm t1 (no_sm q1 n2)) (((t1.trans q1).trans q2).trans s6) hp (s6 _ _ (q2 _ _ hr1)) (s6 _ _ hr2)
theorem cl_least_sums {P : Program} {w : World} {base : Heap} (S : HD sys K mg) : Cl P w K mg base CX0 1 "least_sums" (spLeast) := ⟨_, _, _, (fk_cl_least_sums S), g_least_sums S, (d_least_sums S).kp, b_least_sums S⟩
/-! ### Lengths -/
/-- the numbers from 1 to 60 that are among some -/
def nsOf (is : List Int) : List Nat := ((List.range 60).filter fun (i : Nat) => decide ((1 + (i : Int)) ∈ is)).map (· + 1)
structure NsOk (ns : List Nat) : Prop where
  ne : ns ≠ []
  asc : ns.Pairwise (· < ·)
  lo : ∀ n ∈ ns, 1 ≤ n ∧ n ≤ 60
theorem nsOf_mem {is : List Int} {n : Nat} : n ∈ nsOf is ↔ (1 ≤ n ∧ n ≤ 60) ∧ (n : Int) ∈ is := by
  unfold nsOf
  simp only [List.mem_map, List.mem_filter, List.mem_range, decide_eq_true_eq]
  constructor
  · rintro ⟨i, ⟨h1, h2⟩, rfl⟩
    exact ⟨⟨by omega, by omega⟩, by rw [Int.natCast_add, Int.add_comm]; exact h2⟩
  · rintro ⟨⟨h1, h2⟩, h3⟩
    exact ⟨n - 1, ⟨by omega, by rw [show 1 + ((n - 1 : Nat) : Int) = n by omega]; exact h3⟩, by omega⟩
theorem nsOf_ok {is : List Int} (h : ∀ i ∈ is, 1 ≤ i ∧ i ≤ 60) (ne : is ≠ []) : NsOk (nsOf is) := by
  refine ⟨fun q => ?_, ?_, fun n hn => (nsOf_mem.mp hn).1⟩
  · obtain ⟨i, r, rfl⟩ := List.exists_cons_of_ne_nil ne
    have hi := h i List.mem_cons_self
    have : i.toNat ∈ nsOf (i :: r) := nsOf_mem.mpr ⟨⟨by omega, by omega⟩, by rw [Int.toNat_of_nonneg (by omega)]; exact List.mem_cons_self⟩
    rw [q] at this
    cases this
  · unfold nsOf
    rw [List.pairwise_map]
    refine (List.Pairwise.imp (fun {a b} (h : a < b) => Nat.add_lt_add_right h 1) ?_)
    exact List.pairwise_lt_range.filter _
theorem natV_nsOf {is : List Int} : natV (nsOf is) = ((List.range 60).filter fun (i : Nat) => decide (1 + (i : Int) ∈ is)).map (fun (i : Nat) => V.int (1 + (i : Int))) := by
  unfold natV nsOf
  rw [List.map_map]
  refine List.map_congr_left fun i _ => ?_
  show V.int (((i + 1 : Nat)) : Int) = _
  rw [Int.natCast_add, Int.add_comm]
  rfl
theorem asc_len : ∀ (ns : List Nat) (a b : Nat), ns.Pairwise (· < ·) → (∀ n ∈ ns, a ≤ n ∧ n < b) → ns.length ≤ b - a
  | [], _, _, _, _ => Nat.zero_le _
  | n :: ns, a, b, h, k => by
    have hn := k n List.mem_cons_self
    have := asc_len ns (n + 1) b (List.pairwise_cons.mp h).2 fun u hu => ⟨(List.pairwise_cons.mp h).1 u hu, (k u (List.mem_cons_of_mem _ hu)).2⟩
    rw [List.length_cons]
    omega
theorem NsOk.len {m : Nat} {ls : List Nat} (h : NsOk (m :: ls)) : ls.length ≤ 60 := by
  have := asc_len (m :: ls) 1 61 h.asc fun n hn => ⟨(h.lo n hn).1, by have := (h.lo n hn).2; omega⟩
  rw [List.length_cons] at this
  omega
theorem NsOk.ext {ns ms : List Nat} (h : NsOk ns) (k : NsOk ms) (e : ∀ n, n ∈ ns ↔ n ∈ ms) : ns = ms := by
  refine List.Perm.eq_of_pairwise (le := fun a b => a < b) (fun a b _ _ h1 h2 => absurd h1 (by omega)) h.asc k.asc ?_
  exact (List.perm_ext_iff_of_nodup (h.asc.imp Nat.ne_of_lt) (k.asc.imp Nat.ne_of_lt)).mpr e
theorem nsOf_self {ns : List Nat} (h : NsOk ns) : nsOf (ns.map fun (n : Nat) => (n : Int)) = ns := by
  refine NsOk.ext (nsOf_ok (fun i hi => ?_) (fun q => h.ne (List.map_eq_nil_iff.mp q))) h fun n => ?_
  · obtain ⟨n, hn, rfl⟩ := List.mem_map.mp hi
    have := h.lo n hn
    omega
  · rw [nsOf_mem]
    constructor
    · rintro ⟨_, h2⟩
      obtain ⟨k, hk, e⟩ := List.mem_map.mp h2
      rw [← Int.ofNat.inj e]
      exact hk
    · exact fun hn => ⟨h.lo n hn, List.mem_map.mpr ⟨n, hn, rfl⟩⟩
abbrev lnF (tn tr tl : Addr) (g : Nat) (c : Int) : List (Str × V) := [("_numbers", .ref tn), ("_rows", .ref tr), ("_lasts", .ref tl), ("_divisor", .int g), ("_conductor", .int c)]
/-- Lengths of some numbers, as they stand -/
structure LnIs (C : Addr) (H : Hp) (a : Addr) (ns : List Nat) (dx tn tr tl : Addr) (M : Nat) : Prop where
  at_ : H a = some (.ins C dx (lnF tn tr tl (Ln.gcdl ns) ((M : Int) - ns.head! + Ln.gcdl ns)))
  num : H tn = some (.tup (natV ns))
  row : H tr = some (.tup (rowV (Ln.table ns).1))
  lst : H tl = some (.tup (rowV (Ln.table ns).2))
  top : Ln.Top (Ln.table ns).1 M
  ok : NsOk ns
def LnAt (C : Addr) (H : Hp) (a : Addr) (ns : List Nat) : Prop := ∃ dx tn tr tl M, LnIs C H a ns dx tn tr tl M
theorem LnAt.same {C : Addr} {H H' : Hp} {a : Addr} {ns : List Nat} (h : LnAt C H a ns) (s : ∀ b o, H b = some o → (∀ ps, o ≠ .tbl ps) → (∀ xs, o ≠ .lst xs) → H' b = some o) : LnAt C H' a ns := by
  obtain ⟨dx, tn, tr, tl, M, h1, h2, h3, h4, h5, h6⟩ := h
  exact ⟨dx, tn, tr, tl, M, s _ _ h1 (by intro _ q; cases q) (by intro _ q; cases q), s _ _ h2 (by intro _ q; cases q) (by intro _ q; cases q), s _ _ h3 (by intro _ q; cases q) (by intro _ q; cases q), s _ _ h4 (by intro _ q; cases q) (by intro _ q; cases q), h5, h6⟩
theorem fk_ex_BadLengths___init__ {P : Program} {w : World} {base : Heap} (S : HD sys K mg) : FnOk P w K mg base CX0 1 (Pl.adr K (Pl.me "BadLengths" "__init__")) (fdAt K (Pl.adr K (Pl.me "BadLengths" "__init__"))) ["self", "part"] (spEx1 (ga K "BadLengths") "part") := by
  refine (d_BadLengths___init__ S).ok sc_BadLengths___init__ (fun vs H Q E h => ?_) (fun cdv A outer s H vs Q E hr h => ?_)
  · repeat (first | (obtain ⟨rfl, _⟩ := h; rfl) | (obtain ⟨_, h⟩ := h))
  · have nd := sc_BadLengths___init__.nd
    refine ⟨_, PSs.nox ((pss_one (ps_ost (pv 0) (pv 1)))), ?_⟩
    try dsimp only [cxOf_K]
    obtain ⟨a, v, rfl, ha, k⟩ := h
    refine go_start (σ' := [_, _]) rfl ?_
    walk_at "go"
    refine go_ost1 (exo_BadLengths S).oex (na_BadLengths_part S) ha fun dx n ne => ?_
    walk_at "go"
    exact k dx n ne
theorem ex_BadLengths {P : Program} {w : World} {base : Heap} (S : HD sys K mg) : Ex P w K mg base 1 "BadLengths" (spEx1 (ga K "BadLengths") "part") := ⟨_, _, (fk_ex_BadLengths___init__ S), exo_BadLengths S, g_BadLengths S, b_BadLengths___init__ S⟩
def isSomeV : V → Bool
  | .non => false
  | _ => true
theorem somes_row : ∀ {r : Ln.Row}, ((rowV r).filter isSomeV).map id = ((r.filterMap id).map fun (n : Nat) => (n : Int)).map V.int
  | [] => rfl
  | none :: r => by
    have := somes_row (r := r)
    unfold rowV at this ⊢
    simpa [isSomeV, ov] using this
  | some s :: r => by
    have := somes_row (r := r)
    unfold rowV at this ⊢
    rw [List.map_cons, List.filter_cons_of_pos rfl, List.map_cons, this]
    rfl
def spLnInit (K : PySem.W.Frag) : Sp := fun vs H Q E => ∃ (p dx t : Addr) (ws : List V), vs = [.ref p, .ref t] ∧ H p = some (.ins (ga K "Lengths") dx []) ∧ H t = some (.tup ws) ∧ ws.length ≤ 1000 ∧
  ((∃ is : List Int, ws = is.map V.int ∧ is ≠ [] ∧ (∀ i ∈ is, 1 ≤ i ∧ i ≤ 60) ∧ ∀ H', Kp p H H' → LnAt (ga K "Lengths") H' p (nsOf is) → Q .non H') ∨
   ((∀ v ∈ ws, IntOrNo K H v) ∧ ws.all lenB = false ∧ ∀ H', Same H H' → Er1 K "BadLengths" "part" (.str "number") H' E) ∨ (ws = [] ∧ ∀ H', Same H H' → Er1 K "BadLengths" "part" (.str "none") H' E))
theorem fk_mkeS_Lengths___init__ {P : Program} {w : World} {base : Heap} (S : HD sys K mg) : FnR P w K mg base (L2.CX P w) 4 (Pl.adr K (Pl.me "Lengths" "__init__")) (spStar1 (spLnInit K)) := by
  refine (d_Lengths___init__ S).okS1 (s1 := "self") (pv := "numbers") sc_Lengths___init__ StX.cxUp (fun kV doc pm an cdv ct => StX.bind_star1 (B := fun us => bindArgs (PySem.W.fnOf _ _ _ _ _ .none kV doc pm an cdv ct) ⟨us, []⟩) (fun a => rfl) (fun a r rs => rfl)) (fun cdv A outer s H vs Q E hr h => ?_)
  have nd := sc_Lengths___init__.nd
  refine ⟨_, ((pss_cons (ps_if (pt_not (pt_val (pe_callB (cr_all rfl) (by rfl) (n_all S) (by decide +kernel) (pa_cons (pe_lc (own := [("number", 4)]) (g := gName 4) rfl nd (pi_tup (pv 1)) (blkOk_by (own := [("number", 4)]) (N := ["self", "numbers", "table", "greatest", "number", "row"]) (sc := defScope s_Lengths___init__) (by decide +kernel)) (fun _ _ _ _ _ => (pg_name (i := 4) nd rfl (Or.inl rfl))) (fun _ _ _ _ _ => pts_nil) (fun _ _ _ _ _ => (pe_f (cl_is_length S) hr (by decide) pass0 (pa_cons (pv 4) pa_nil)))) pa_nil)))) (pss_one (ps_raise rfl (takes_of rfl rfl rfl rfl) (pmk_ex (ex_BadLengths S) hr (by decide) (pa_cons pe_str pa_nil)))) pss_nil)
    (pss_cons (ps_if (pt_cmpR op_eq (pe_callB call_len_seq (by rfl) (n_len S) (by decide +kernel) (pa_cons (pv 1) pa_nil)) pe_int (nomark _)) (pss_one (ps_raise rfl (takes_of rfl rfl rfl rfl) (pmk_ex (ex_BadLengths S) hr (by decide) (pa_cons pe_str pa_nil)))) pss_nil)
    (pss_cons (ps_fld (pv 0) (pe_callTy call_tupOf (by rfl) (n_tuple S) (by decide +kernel) (pa_cons (pe_lc (own := [("number", 4)]) (g := gName 4) rfl nd (pi_range2 (by rfl) (n_range S) (pa_cons pe_int (pa_cons (pe_op op_add (ClX.pe_cval (pe_glob (v := .ref (ga K "Lengths")) rfl (g_Lengths S) rfl)) pe_int) pa_nil))) (blkOk_by (own := [("number", 4)]) (N := ["self", "numbers", "table", "greatest", "number", "row"]) (sc := defScope s_Lengths___init__) (by decide +kernel)) (fun _ _ _ _ _ => (pg_name (i := 4) nd rfl (Or.inl rfl))) (fun _ _ _ _ _ => pts_one (pt_cmpR (opk (r := (fun K => rIn K false)) (K' := K) rfl op_in_seq) (pv 4) (pv 1) (by rfl))) (fun _ _ _ _ _ => (pv 4))) pa_nil)) rfl)
    (pss_cons (ps_set (i := 2) nd rfl (Or.inl rfl) (pe_f (cl_least_sums S) hr (by decide) pass0 (pa_cons (pe_fld (pv 0) rfl) pa_nil)))
    (pss_cons (ps_fld (pv 0) (pe_ix ix_tup (pv 2) pe_int (fun _ _ => rfl)) rfl)
    (pss_cons (ps_fld (pv 0) (pe_ix ix_tup (pv 2) pe_int (fun _ _ => rfl)) rfl)
    (pss_cons (ps_fld (pv 0) (pe_f (cl_divisor_of S) hr (by decide) pass0 (pa_cons (pe_fld (pv 0) rfl) pa_nil)) rfl)
    (pss_cons (ps_set (i := 3) nd rfl (Or.inl rfl) (pe_callB (cr_max rfl) (by rfl) (n_max S) (by decide +kernel) (pa_cons (pe_lc (own := [("row", 5)]) (g := gName 5) rfl nd (pi_tup (pe_fld (pv 0) rfl)) (blkOk_by (own := [("row", 5)]) (N := ["self", "numbers", "table", "greatest", "number", "row"]) (sc := defScope s_Lengths___init__) (by decide +kernel)) (fun _ _ _ _ _ => (pg_name (i := 5) nd rfl (Or.inl rfl))) (fun _ _ _ _ _ => pts_one (pt_cmpR op_notN1 (pv 5) pe_non (nomark _))) (fun _ _ _ _ _ => (pe_callTy call_int1 (by rfl) (n_int S) (by decide +kernel) (pa_cons (pv 5) pa_nil)))) pa_nil)))
    (pss_one (ps_fld (pv 0) (pe_op op_add (pe_op op_sub (pv 3) (pe_ix ix_tup (pe_fld (pv 0) rfl) pe_int (fun _ _ => rfl))) (pe_fld (pv 0) rfl)) rfl))))))))))), ?_⟩
  try dsimp only [cxOf_K]
  · skip
    obtain ⟨p, dx, t, ws, rfl, hp, ht, hw, hc⟩ := h
    have cCLengths := C_Lengths S
    have naLengths_numbers := na_Lengths__numbers S
    have naLengths_rows := na_Lengths__rows S
    have naLengths_lasts := na_Lengths__lasts S
    have naLengths_divisor := na_Lengths__divisor S
    have naLengths_conductor := na_Lengths__conductor S
    have crLengths := cr_Lengths S
    obtain ⟨_, cvLengthsMOST⟩ := cv_Lengths_MOST S
    have pt : p ≠ t := fun q => by rw [q, ht] at hp; cases hp
    have ios : ∀ H', Same H H' → ∀ v ∈ ws, IntOrNo K H' v := fun H' s v hv => by
      rcases hc with ⟨is, rfl, _⟩ | ⟨h, _⟩ | ⟨rfl, _⟩
      · obtain ⟨i, _, rfl⟩ := List.mem_map.mp hv
        exact .inl ⟨i, rfl⟩
      · exact (h v hv).same s
      · cases hv
    refine go_start (σ' := [_, _, none, none, none, none]) rfl ?_
    walk_at "gm"
    refine lcTupIf (xs := ws) (fun _ => true) (fun v => .bl (lenB v)) (by omega) (.of ht) (fun _ => rfl) (fun v H' Q' hv s k' => k' H' (Same.refl _)) (fun v H' Q' hv _ s k' => ?_) (fun D H1 nD s1 hD => ?_)
    · dsimp only [List.map, wipe, List.set]
      walk_at "gm"
      exact ⟨v, rfl, ios H' s v hv, k' H' (Same.refl _)⟩
    rw [List.filter_eq_self.mpr (fun _ _ => rfl), show ws.map (fun v => V.bl (lenB v)) = (ws.map lenB).map V.bl by rw [List.map_map]; rfl] at hD
    walk_at "gm"
    refine go_all (.of hD) ?_
    rw [List.all_map, show (id ∘ lenB) = lenB from rfl]
    have hp1 := s1 _ _ hp
    have ht1 := s1 _ _ ht
    rcases hc with ⟨is, rfl, ne, hi, k⟩ | ⟨_, hf, er⟩ | ⟨rfl, er⟩
    · have al : (is.map V.int).all lenB = true := by
        rw [List.all_map, List.all_eq_true]
        intro i hi'
        have := hi i hi'
        simp [lenB, this]
      rw [al]
      have nl : ((is.map V.int).length : Int) ≠ 0 := by
        rw [List.length_map]
        have := List.length_pos_iff.mpr ne
        omega
      walk_at "gm"
      refine go_dec (fun z => absurd z nl) (fun _ => ?_)
      walk_at "gm"
      rw [show ((60 : Int) + 1 - 1).toNat = 60 from rfl]
      refine lcRangeIf (fun i => decide (1 + (i : Int) ∈ is)) (fun i => .int (1 + (i : Int))) (by decide) (fun _ => rfl) (fun i H' Q' hi s k' => ?_) (fun i H' Q' hi _ s k' => ?_) (fun D2 H2 nD2 s2 hD2 => ?_)
      · dsimp only [List.map, wipe, List.set]
        walk_at "gm"
        refine go_inInts (.inr (.of (s _ _ ht1))) ?_
        walk_at "gm"
        exact k' H' (Same.refl _)
      · dsimp only [List.map, wipe, List.set]
        walk_at "gm"
        exact k' H' (Same.refl _)
      rw [← natV_nsOf] at hD2
      have hok := nsOf_ok hi ne
      generalize nsOf is = ns at hD2 k hok
      obtain ⟨m, ls, rfl⟩ := List.exists_cons_of_ne_nil hok.ne
      have m0 := hok.lo m List.mem_cons_self
      have ln60 : ls.length ≤ 60 := hok.len
      walk_at "gm"
      refine go_tupofL (.of hD2) fun tn H3 ntn s3 htn => ?_
      have hp3 := s3 _ _ (s2 _ _ hp1)
      have tnp : tn ≠ p := fun q => by rw [q, hp3] at htn; cases htn
      have kp3 : Kp p H H3 := fun b o h _ => s3 _ _ (s2 _ _ (s1 _ _ h))
      walk_at "gm"
      refine ⟨tn, m, ls, rfl, (upd_ne tnp).trans htn, ⟨by omega, m0.2⟩, fun l hl => ?_, by omega, fun tp r1 r2 H4 ntp n1 n2 s4 htp hr1 hr2 => ?_⟩
      · have := hok.lo l (List.mem_cons_of_mem _ hl)
        exact ⟨by omega, this.2⟩
      have hp4 : H4 p = some (.ins (ga K "Lengths") dx [("_numbers", .ref tn)]) := s4 _ _ upd_same
      have htn4 : H4 tn = some (.tup (natV (m :: ls))) := s4 _ _ ((upd_ne tnp).trans htn)
      have tpp : tp ≠ p := fun q => by rw [q, hp4] at htp; cases htp
      have r1p : r1 ≠ p := fun q => by rw [q, hp4] at hr1; cases hr1
      have r2p : r2 ≠ p := fun q => by rw [q, hp4] at hr2; cases hr2
      have kp4 : Kp p H H4 := fun b o h nb => s4 _ _ ((upd_ne nb).trans (kp3 b o h nb))
      obtain ⟨oT, cT⟩ := Ln.table_spec (m := m) (ls := ls) (by omega) (fun l hl => (hok.lo l (List.mem_cons_of_mem _ hl)).1)
      walk_at "gm"
      refine ⟨tn, m :: ls, rfl, by walk_at "hp", ?_⟩
      walk_at "gm"
      rw [upd_upd, upd_upd]
      generalize hH5 : upd H4 p _ = H5
      have kp5 : Kp p H4 H5 := hH5 ▸ Kp.put
      have hp5 : H5 p = some (.ins (ga K "Lengths") dx [("_numbers", .ref tn), ("_rows", .ref r1), ("_lasts", .ref r2), ("_divisor", .int (Ln.gcdl (m :: ls) : Nat))]) := hH5 ▸ upd_same
      clear hH5
      have hr15 := kp5 _ _ hr1 r1p
      have hr25 := kp5 _ _ hr2 r2p
      have htn5 := kp5 _ _ htn4 tnp
      walk_at "gm"
      refine lcTupIf (xs := rowV (Ln.table (m :: ls)).1) isSomeV id ?_ (.of hr15) (fun _ => rfl) (fun v H' Q' hv s k' => ?_) (fun v H' Q' hv hc s k' => ?_) (fun D3 H6 nD3 s6 hD3 => ?_)
      · rw [row_len, oT.len1]
        omega
      · dsimp only [List.map, wipe, List.set]
        obtain ⟨o, _, rfl⟩ := List.mem_map.mp hv
        cases o with
        | none =>
          show tTest (tOp rNotN _ _) _ _ _
          walk_at "gm"
          refine notN_non ?_
          walk_at "gm"
          exact k' H' (Same.refl _)
        | some s =>
          walk_at "gm"
          refine notN_int ?_
          walk_at "gm"
          exact k' H' (Same.refl _)
      · dsimp only [List.map, wipe, List.set]
        obtain ⟨o, _, rfl⟩ := List.mem_map.mp hv
        cases o with
        | none => cases hc
        | some s =>
          walk_at "gm"
          refine go_int ?_
          exact k' H' (Same.refl _)
      rw [somes_row] at hD3
      walk_at "gm"
      refine go_maxI (.of hD3) (fun q => ?_) fun M hM hmax => ?_
      · have : (0 : Nat) ∈ (Ln.table (m :: ls)).1.filterMap id := List.mem_filterMap.mpr ⟨some 0, List.mem_of_getElem? oT.zero, rfl⟩
        rw [List.map_eq_nil_iff.mp q] at this
        cases this
      obtain ⟨M', hM', rfl⟩ := List.mem_map.mp hM
      have top : Ln.Top (Ln.table (m :: ls)).1 M' := by
        refine ⟨fun r s hs => ?_, ?_⟩
        · have := hmax (s : Nat) (List.mem_map.mpr ⟨s, List.mem_filterMap.mpr ⟨some s, List.mem_of_getElem? hs, rfl⟩, rfl⟩)
          omega
        · obtain ⟨o, ho, e⟩ := List.mem_filterMap.mp hM'
          obtain ⟨r, hr⟩ := List.mem_iff_getElem?.mp ho
          exact ⟨r, by unfold Ln.Has; rw [hr]; exact congrArg some e⟩
      have hp6 := s6 _ _ hp5
      have htn6 := s6 _ _ htn5
      walk_at "gm"
      refine go_ixt (.of htn6) (v := .int (m : Nat)) (atN (n := 0) rfl) ?_
      walk_at "gm"
      refine k _ (fun b o h nb => (upd_ne nb).trans (s6 _ _ (kp5 _ _ (kp4 b o h nb) nb))) ⟨dx, tn, r1, r2, M', upd_same, (upd_ne tnp).trans htn6, (upd_ne r1p).trans (s6 _ _ hr15), (upd_ne r2p).trans (s6 _ _ hr25), top, hok⟩
    · rw [hf]
      walk_at "gm"
      exact go_ex1 (er H1 s1).at
    · rw [List.all_nil]
      walk_at "gm"
      refine go_dec (fun z => ?_) (fun z => absurd rfl z)
      walk_at "gm"
      exact go_ex1 (er H1 s1).at
theorem mkeS_Lengths {P : Program} {w : World} {base : Heap} (S : HD sys K mg) : MkeS P w K mg base (L2.CX P w) 4 "Lengths" (spStar1 (spLnInit K)) := ⟨_, fk_mkeS_Lengths___init__ S, mk_Lengths S, g_Lengths S⟩
/-! ### Lengths made -/
abbrev intsV (ns : List Nat) : List Int := ns.map fun (n : Nat) => (n : Int)
theorem natV_ints {ns : List Nat} : natV ns = (intsV ns).map V.int := by
  unfold natV intsV
  rw [List.map_map]
  rfl
theorem LnAt.sm {C : Addr} {H H' : Hp} {a : Addr} {ns : List Nat} (h : LnAt C H a ns) (s : Same H H') : LnAt C H' a ns := h.same fun b o q _ _ => s b o q
theorem LnAt.xt {C : Addr} {H H' : Hp} {a : Addr} {ns : List Nat} (h : LnAt C H a ns) (s : LamX.ExtN H H') : LnAt C H' a ns := h.same fun b o q n _ => s b o q n
theorem LnAt.kp {C : Addr} {H H' : Hp} {a p : Addr} {ns : List Nat} {xs : List V} (h : LnAt C H a ns) (s : Kp p H H') (hp : H p = some (.lst xs)) : LnAt C H' a ns := h.same fun b o q _ n => s b o q fun z => by
  rw [z, hp] at q
  cases q
  exact n xs rfl
theorem er1_sm {x f : Str} {v : V} {H H1 : Hp} {E : XK} (s : Same H H1) (h : Er1 K x f v H E) : Er1 K x f v H1 E := fun d H' n s' hd => h d H' (no_sm s n) (s.trans s') hd
theorem ln_make {H : Hp} {Q : VK} {E : XK} {is : List Int} (ne : is ≠ []) (hi : ∀ i ∈ is, 1 ≤ i ∧ i ≤ 60) (hl : is.length ≤ 1000) (k : ∀ x H', H x = none → Same H H' → LnAt (ga K "Lengths") H' x (nsOf is) → Q (.ref x) H') :
    rMakeS (ga K "Lengths") (spStar1 (spLnInit K)) E (is.map V.int) H Q := by
  intro x dx nx nd nxd
  refine ⟨[.ref x], is.map V.int, rfl, rfl, by rw [List.length_map]; exact Nat.le_trans hl (by decide), fun p np => ?_⟩
  have px : p ≠ x := fun q => by rw [q, upd_same] at np; cases np
  refine ⟨x, dx, p, is.map V.int, rfl, (upd_ne (Ne.symm px)).trans upd_same, upd_same, by rw [List.length_map]; exact hl, .inl ⟨is, rfl, ne, hi, fun H' kp ln => ⟨rfl, k x H' nx (fun b o h => ?_) ln⟩⟩⟩
  have bx : b ≠ x := fun q => by rw [q, nx] at h; cases h
  have bd : b ≠ dx := fun q => by rw [q, nd] at h; cases h
  have h1 : upd (upd H dx (.own x)) x (.ins (ga K "Lengths") dx []) b = some o := (upd_ne bx).trans ((upd_ne bd).trans h)
  have bp : b ≠ p := fun q => by rw [← q, h1] at np; cases np
  exact kp b o ((upd_ne bp).trans h1) bx
theorem ln_bad {H : Hp} {Q : VK} {E : XK} {ws : List V} (hl : ws.length ≤ 1000) (h : ((∀ v ∈ ws, IntOrNo K H v) ∧ ws.all lenB = false ∧ Er1 K "BadLengths" "part" (.str "number") H E) ∨ (ws = [] ∧ Er1 K "BadLengths" "part" (.str "none") H E)) :
    rMakeS (ga K "Lengths") (spStar1 (spLnInit K)) E ws H Q := by
  intro x dx nx nd nxd
  refine ⟨[.ref x], ws, rfl, rfl, Nat.le_trans hl (by decide), fun p np => ?_⟩
  have px : p ≠ x := fun q => by rw [q, upd_same] at np; cases np
  have s : Same H (upd (upd (upd H dx (.own x)) x (.ins (ga K "Lengths") dx [])) p (.tup ws)) := fun b o h => by
    have bx : b ≠ x := fun q => by rw [q, nx] at h; cases h
    have bd : b ≠ dx := fun q => by rw [q, nd] at h; cases h
    have h1 : upd (upd H dx (.own x)) x (.ins (ga K "Lengths") dx []) b = some o := (upd_ne bx).trans ((upd_ne bd).trans h)
    have bp : b ≠ p := fun q => by rw [← q, h1] at np; cases np
    exact (upd_ne bp).trans h1
  refine ⟨x, dx, p, ws, rfl, (upd_ne (Ne.symm px)).trans upd_same, upd_same, hl, .inr ?_⟩
  rcases h with ⟨h1, h2, h3⟩ | ⟨h1, h2⟩
  · exact .inl ⟨fun v hv => (h1 v hv).same s, h2, fun H' s' => er1_sm (s.trans s') h3⟩
  · exact .inr ⟨h1, fun H' s' => er1_sm (s.trans s') h2⟩
def NoLT (K : PySem.W.Frag) (H : Hp) (v : V) : Prop := ∃ t, TyX K H v t ∧ PySem.W.kitOne K t (.type "list") = some false ∧ PySem.W.kitOne K t (.type "tuple") = some false
theorem isiLT {H : Hp} {Q : VK} {a tc : Addr} {ws : List V} (ht : H tc = some (.tup [.ty "list", .ty "tuple"])) (ha : H a = some (.lst ws) ∨ H a = some (.tup ws)) (k : Q (.bl true) H) : rIsiT K [.ref a, .ref tc] H Q := by
  rcases ha with ha | ha
  · exact ⟨_, tc, _, _, [.type "list", .type "tuple"], true, rfl, ht, .cons (.ty _) (.cons (.ty _) .nil), .base (.lst ha), kitAny_cons (b := true) (kit_ty (by decide +kernel)) (by intro z; cases z) (fun _ => rfl), k⟩
  · exact ⟨_, tc, _, _, [.type "list", .type "tuple"], true, rfl, ht, .cons (.ty _) (.cons (.ty _) .nil), .base (.tup ha), kitAny_cons (b := false) (kit_ty (by decide +kernel)) (fun _ => kitAny_cons (b := true) (kit_ty (by decide +kernel)) (by intro z; cases z) (fun _ => rfl)) (by intro z; cases z), k⟩
theorem dpNats {H : Hp} : ∀ ns : List Nat, DpAll K H (natV ns) (ns.map fun n => PyData.int (n : Nat))
  | [] => .nil
  | n :: ns => .cons (.int _) (dpNats ns)
theorem shNats (ns : List Nat) : SeqAt.shaped (.tuple (ns.map fun n => PyData.int (n : Nat))) = true := by
  have d : ∀ ns : List Nat, PyData.depthAll (ns.map fun n => PyData.int (n : Nat)) ≤ 1 := fun ns => by
    induction ns with
    | nil => decide
    | cons n ns ih =>
      rw [List.map_cons, PyData.depthAll]
      have e : (PyData.int (n : Nat)).depth ≤ 1 := by rw [PyData.depth]; omega
      omega
  have c : ∀ ns : List Nat, PyData.canLayAll0 (ns.map fun n => PyData.int (n : Nat)) = true := fun ns => by
    induction ns with
    | nil => rfl
    | cons n ns ih => rw [List.map_cons, PyData.canLayAll0, ih]; rfl
  unfold SeqAt.shaped
  rw [PyData.canLay0, c, PyData.depth]
  have := d ns
  simp
  omega
theorem eqvNats : ∀ ns ms : List Nat, PyData.eqvAll (ns.map fun n => PyData.int (n : Nat)) (ms.map fun n => PyData.int (n : Nat)) = decide (ns = ms)
  | [], [] => by rw [List.map_nil, PyData.eqvAll]; rfl
  | [], _ :: _ => by rw [List.map_nil, List.map_cons, PyData.eqvAll]; rfl
  | _ :: _, [] => by rw [List.map_nil, List.map_cons, PyData.eqvAll]; rfl
  | n :: ns, m :: ms => by
    rw [List.map_cons, List.map_cons, PyData.eqvAll, eqvNats ns ms, PyData.eqv]
    by_cases h : n = m
    · by_cases h2 : ns = ms
      · subst h h2; simp
      · simp [h, h2]
    · have : ¬ (n : Int) = m := by omega
      simp [h, this]
theorem NsOk.len' {ns : List Nat} (h : NsOk ns) : ns.length ≤ 61 := by
  obtain ⟨m, ls, rfl⟩ := List.exists_cons_of_ne_nil h.ne
  have := h.len
  rw [List.length_cons]
  omega
theorem NsOk.ints {ns : List Nat} {c : Nat → Bool} (h : NsOk ns) (ne : ns.filter c ≠ []) : (∀ i ∈ intsV (ns.filter c), 1 ≤ i ∧ i ≤ 60) ∧ (intsV (ns.filter c)).length ≤ 1000 ∧ nsOf (intsV (ns.filter c)) = ns.filter c := by
  refine ⟨fun i hi => ?_, ?_, nsOf_self ⟨ne, h.asc.filter c, fun n hn => h.lo n (List.mem_filter.mp hn).1⟩⟩
  · obtain ⟨n, hn, rfl⟩ := List.mem_map.mp hi
    have := h.lo n (List.mem_filter.mp hn).1
    omega
  · rw [List.length_map]
    have := List.length_filter_le c ns
    have := h.len'
    omega
theorem mem_ints {n : Nat} {ms : List Nat} : decide ((n : Int) ∈ intsV ms) = decide (n ∈ ms) := decide_eq_decide.mpr ⟨fun h => by
  obtain ⟨k, hk, e⟩ := List.mem_map.mp h
  rw [← Int.ofNat.inj e]
  exact hk, fun h => List.mem_map.mpr ⟨n, h, rfl⟩⟩
def keepV (ms : List Nat) (keep : Bool) : V → Bool
  | .int i => decide (i ∈ intsV ms) == keep
  | _ => false
theorem keep_nats {ns ms : List Nat} {keep : Bool} : ((natV ns).filter (keepV ms keep)).map id = natV (ns.filter fun n => decide (n ∈ ms) == keep) := by
  rw [List.map_id]
  unfold natV
  rw [List.filter_map]
  congr 1
  refine List.filter_congr fun n _ => ?_
  show (decide ((n : Int) ∈ intsV ms) == keep) = _
  rw [mem_ints]
def spOf (K : PySem.W.Frag) : Sp := fun vs H Q E => ∃ v : V, vs = [.ref (ga K "Lengths"), v] ∧
  ((∃ (a : Addr) (is : List Int), v = .ref a ∧ (H a = some (.lst (is.map V.int)) ∨ H a = some (.tup (is.map V.int))) ∧ is ≠ [] ∧ (∀ i ∈ is, 1 ≤ i ∧ i ≤ 60) ∧ is.length ≤ 1000 ∧ ∀ x H', H x = none → Same H H' → LnAt (ga K "Lengths") H' x (nsOf is) → Q (.ref x) H') ∨
   (∃ (a : Addr) (ws : List V), v = .ref a ∧ (H a = some (.lst ws) ∨ H a = some (.tup ws)) ∧ ws.length ≤ 1000 ∧ (((∀ v ∈ ws, IntOrNo K H v) ∧ ws.all lenB = false ∧ Er1 K "BadLengths" "part" (.str "number") H E) ∨ (ws = [] ∧ Er1 K "BadLengths" "part" (.str "none") H E))) ∨
   (NoLT K H v ∧ Er1 K "BadLengths" "part" (.str "list") H E))
theorem fk_cm_Lengths_of {P : Program} {w : World} {base : Heap} (S : HD sys K mg) : FnOk P w K mg base (L2.CX P w) 6 (Pl.adr K (Pl.cm "Lengths" "of")) (fdAt K (Pl.adr K (Pl.cm "Lengths" "of"))) ["cls", "numbers"] (spOf K) := by
  refine (d_Lengths_of S).ok sc_Lengths_of (fun vs H Q E h => ?_) (fun cdv A outer s H vs Q E hr h => ?_)
  · repeat (first | (obtain ⟨rfl, _⟩ := h; rfl) | (obtain ⟨_, h⟩ := h))
  · have nd := sc_Lengths_of.nd
    refine ⟨_, ((pss_cons (ps_if (pt_not (pt_val (pe_callB call_isiT (by rfl) (n_isinstance S) (by decide +kernel) (pa_cons (pv 1) (pa_cons (pe_tup (pa_cons (pe_bltn (v := .ty "list") (by rfl) (n_list S) (by decide +kernel) rfl) (pa_cons (pe_bltn (v := .ty "tuple") (by rfl) (n_tuple S) (by decide +kernel) rfl) pa_nil))) pa_nil))))) (pss_one (ps_raise rfl (takes_of rfl rfl rfl rfl) (pmk_ex (ex_BadLengths S) hr (by decide) (pa_cons pe_str pa_nil)))) pss_nil)
    (pss_one (ps_ret (pe_mkeTL (i := 0) (K' := K) rfl (mkeS_Lengths S) hr (by decide) (passes_call (takes_of rfl rfl rfl rfl) (fun _ _ _ _ h => h)) rfl (pv 1)))))), ?_⟩
    try dsimp only [cxOf_K]
    obtain ⟨v, rfl, ⟨a, is, rfl, ha, ne, hi, hl, k⟩ | ⟨a, ws, rfl, ha, hl, hc⟩ | ⟨⟨t, ty, k1, k2⟩, k⟩⟩ := h
    · refine go_start (σ' := [_, _]) rfl ?_
      walk_at "gm"
      rename_i tc Hc ntc stc htc
      have ha' : Hc a = some (.lst (is.map V.int)) ∨ Hc a = some (.tup (is.map V.int)) := ha.imp (stc _ _) (stc _ _)
      refine isiLT htc ha' ?_
      walk_at "gm"
      refine go_mkTx (xs := is.map V.int) (ha'.symm.imp SqT.of SqL.of) ?_
      exact ln_make ne hi hl fun x H' nx s ln => k x H' (no_sm stc nx) (stc.trans s) ln
    · refine go_start (σ' := [_, _]) rfl ?_
      walk_at "gm"
      rename_i tc Hc ntc stc htc
      have ha' : Hc a = some (.lst ws) ∨ Hc a = some (.tup ws) := ha.imp (stc _ _) (stc _ _)
      refine isiLT htc ha' ?_
      walk_at "gm"
      refine go_mkTx (xs := ws) (ha'.symm.imp SqT.of SqL.of) ?_
      exact ln_bad hl (hc.imp (fun ⟨h1, h2, h3⟩ => ⟨fun v hv => (h1 v hv).same stc, h2, er1_sm stc h3⟩) (fun ⟨h1, h2⟩ => ⟨h1, er1_sm stc h2⟩))
    · refine go_start (σ' := [_, _]) rfl ?_
      walk_at "gm"
      rename_i tc Hc ntc stc htc
      refine ⟨v, tc, _, t, [.type "list", .type "tuple"], false, rfl, htc, .cons (.ty _) (.cons (.ty _) .nil), tyX_same ty stc, kitAny_cons k1 (fun _ => kitAny_cons k2 (fun _ => rfl) (by intro z; cases z)) (by intro z; cases z), ?_⟩
      walk_at "gm"
      exact go_ex1 (er1_sm stc k).at
theorem cm_Lengths_of {P : Program} {w : World} {base : Heap} (S : HD sys K mg) : Cm P w K mg base (L2.CX P w) 6 (ga K "Lengths") "of" (spOf K) := ⟨_, _, _, _, (fk_cm_Lengths_of S), cr_Lengths S, cme_Lengths_of S, b_Lengths_of S⟩
/-! ### what is no Lengths is refused -/
def NoLn (K : PySem.W.Frag) (H : Hp) (v : V) : Prop := ∃ t : Value, TyX K H v t ∧ PySem.W.kitOne K t (.ref (ga K "Lengths")) = some false ∧ PySem.W.notFirst K (ga K "Lengths") t = true
def spChkLn (K : PySem.W.Frag) : Sp := fun vs H Q E => ∃ v : V, vs = [v] ∧ ((∃ c ms, v = .ref c ∧ LnAt (ga K "Lengths") H c ms ∧ Q .non H) ∨ (NoLn K H v ∧ Er1 K "BadLengths" "part" (.str "lengths") H E))
theorem fk_cl_check_lengths {P : Program} {w : World} {base : Heap} (S : HD sys K mg) : FnOk P w K mg base (L2.CX P w) 3 (Pl.adr K (Pl.fn "check_lengths")) (fdAt K (Pl.adr K (Pl.fn "check_lengths"))) ["lengths"] (spChkLn K) := by
  refine (d_check_lengths S).ok sc_check_lengths (fun vs H Q E h => ?_) (fun cdv A outer s H vs Q E hr h => ?_)
  · repeat (first | (obtain ⟨rfl, _⟩ := h; rfl) | (obtain ⟨_, h⟩ := h))
  · have nd := sc_check_lengths.nd
    refine ⟨_, ((pss_one (ps_if (pt_not (pt_val (pe_callB call_isi (by rfl) (n_isinstance S) (by decide +kernel) (pa_cons (pv 0) (pa_cons (pe_glob (v := .ref (ga K "Lengths")) rfl (g_Lengths S) rfl) pa_nil))))) (pss_one (ps_raise rfl (takes_of rfl rfl rfl rfl) (pmk_ex (ex_BadLengths S) hr (by decide) (pa_cons pe_str pa_nil)))) pss_nil))), ?_⟩
    try dsimp only [cxOf_K]
    obtain ⟨v, rfl, ⟨c, ms, rfl, ⟨dx, tn, tr, tl, M, L⟩, k⟩ | ⟨⟨t, ty, k1⟩, k⟩⟩ := h
    · refine go_start (σ' := [_]) rfl ?_
      walk_at "gm"
      refine go_isi (.own _) (tyIns (in_Lengths S) L.at_) (kit_o_Lengths__o_Lengths__true S) ?_
      walk_at "gm"
      exact k
    · refine go_start (σ' := [_]) rfl ?_
      walk_at "gm"
      refine go_isi (.own _) ty k1.1 ?_
      walk_at "gm"
      exact go_ex1 k.at
theorem cl_check_lengths {P : Program} {w : World} {base : Heap} (S : HD sys K mg) : Cl P w K mg base (L2.CX P w) 3 "check_lengths" (spChkLn K) := ⟨_, _, _, (fk_cl_check_lengths S), g_check_lengths S, (d_check_lengths S).kp, b_check_lengths S⟩
/-! ### the longest -/
def spLong (K : PySem.W.Frag) : Sp := fun vs H Q _ => ∃ (a : Addr) (ns : List Nat), vs = [.ref a] ∧ LnAt (ga K "Lengths") H a ns ∧ Q (.int (ns.getLast! : Nat)) H
theorem fk_pr_Lengths_longest {P : Program} {w : World} {base : Heap} (S : HD sys K mg) : FnOk P w K mg base CX0 1 (Pl.adr K (Pl.pr "Lengths" "longest")) (fdAt K (Pl.adr K (Pl.pr "Lengths" "longest"))) ["self"] (spLong K) := by
  refine (d_Lengths_longest S).ok sc_Lengths_longest (fun vs H Q E h => ?_) (fun cdv A outer s H vs Q E hr h => ?_)
  · repeat (first | (obtain ⟨rfl, _⟩ := h; rfl) | (obtain ⟨_, h⟩ := h))
  · have nd := sc_Lengths_longest.nd
    refine ⟨_, PSs.nox ((pss_one (ps_ret (pe_ix ix_tup (pe_fld (pv 0) rfl) (pe_un un_neg pe_int) (fun _ _ => rfl))))), ?_⟩
    try dsimp only [cxOf_K]
    obtain ⟨a, ns, rfl, ⟨dx, tn, tr, tl, M, L⟩, k⟩ := h
    have ha := L.at_
    have hn := L.num
    have cCLengths := C_Lengths S
    have naLengths_numbers := na_Lengths__numbers S
    have naLengths_rows := na_Lengths__rows S
    have naLengths_lasts := na_Lengths__lasts S
    have naLengths_divisor := na_Lengths__divisor S
    have naLengths_conductor := na_Lengths__conductor S
    obtain ⟨m, r, rfl⟩ := List.exists_cons_of_ne_nil L.ok.ne
    refine go_start (σ' := [_]) rfl ?_
    walk_at "gm"
    refine go_ixt (v := .int ((m :: r).getLast! : Nat)) (.of hn) ?_ k
    show (ixN ((m :: r).map fun n => V.int (n : Nat)).length (-1)).bind _ = _
    rw [List.length_map, List.length_cons, show ixN (r.length + 1) (-1) = some r.length by unfold ixN; rw [if_neg (by decide), if_pos (by omega)]; congr 1; omega]
    show ((m :: r).map fun n => V.int (n : Nat))[r.length]? = _
    rw [List.getElem?_map, show (m :: r)[r.length]? = some ((m :: r).getLast!) by rw [List.getLast!_eq_getElem!]; simp]
    rfl
theorem pr_Lengths_longest {P : Program} {w : World} {base : Heap} (S : HD sys K mg) : Pr P w K mg base CX0 1 (ga K "Lengths") "longest" (spLong K) := ⟨_, _, _, _, (fk_pr_Lengths_longest S), C_Lengths S, prp_Lengths_longest S, b_Lengths_longest S⟩
/-! ### counts -/
theorem fk_ex_BadNumber___init__ {P : Program} {w : World} {base : Heap} (S : HD sys K mg) : FnOk P w K mg base CX0 1 (Pl.adr K (Pl.me "BadNumber" "__init__")) (fdAt K (Pl.adr K (Pl.me "BadNumber" "__init__"))) ["self", "value"] (spEx1 (ga K "BadNumber") "value") := by
  refine (d_BadNumber___init__ S).ok sc_BadNumber___init__ (fun vs H Q E h => ?_) (fun cdv A outer s H vs Q E hr h => ?_)
  · repeat (first | (obtain ⟨rfl, _⟩ := h; rfl) | (obtain ⟨_, h⟩ := h))
  · have nd := sc_BadNumber___init__.nd
    refine ⟨_, PSs.nox ((pss_one (ps_ost (pv 0) (pv 1)))), ?_⟩
    try dsimp only [cxOf_K]
    obtain ⟨a, v, rfl, ha, k⟩ := h
    refine go_start (σ' := [_, _]) rfl ?_
    walk_at "go"
    refine go_ost1 (exo_BadNumber S).oex (na_BadNumber_value S) ha fun dx n ne => ?_
    walk_at "go"
    exact k dx n ne
theorem ex_BadNumber {P : Program} {w : World} {base : Heap} (S : HD sys K mg) : Ex P w K mg base 1 "BadNumber" (spEx1 (ga K "BadNumber") "value") := ⟨_, _, (fk_ex_BadNumber___init__ S), exo_BadNumber S, g_BadNumber S, b_BadNumber___init__ S⟩
def spIsCount (K : PySem.W.Frag) : Sp := fun vs H Q _ => ∃ v : V, vs = [v] ∧ ((∃ i : Int, v = .int i ∧ Q (.bl (decide (0 ≤ i))) H) ∨ (NoInt K H v ∧ Q (.bl false) H))
theorem fk_cl_is_count {P : Program} {w : World} {base : Heap} (S : HD sys K mg) : FnOk P w K mg base CX0 2 (Pl.adr K (Pl.fn "is_count")) (fdAt K (Pl.adr K (Pl.fn "is_count"))) ["value"] (spIsCount K) := by
  refine (d_is_count S).ok sc_is_count (fun vs H Q E h => ?_) (fun cdv A outer s H vs Q E hr h => ?_)
  · repeat (first | (obtain ⟨rfl, _⟩ := h; rfl) | (obtain ⟨_, h⟩ := h))
  · have nd := sc_is_count.nd
    refine ⟨_, PSs.nox ((pss_one (ps_ret (pe_and (pe_f (cl_is_integer S) hr (by decide) pass0 (pa_cons (pv 0) pa_nil)) (pe_one (pe_cmpR op_ge (pv 0) pe_int (nomark _))))))), ?_⟩
    try dsimp only [cxOf_K]
    obtain ⟨v, rfl, ⟨i, rfl, k⟩ | ⟨hn, k⟩⟩ := h
    · refine go_start (σ' := [_]) rfl ?_
      walk_at "go"
      refine isInt_int ?_
      walk_at "go"
      exact k
    · refine go_start (σ' := [_]) rfl ?_
      walk_at "go"
      refine isInt_no hn ?_
      walk_at "go"
      exact k
theorem cl_is_count {P : Program} {w : World} {base : Heap} (S : HD sys K mg) : Cl P w K mg base CX0 2 "is_count" (spIsCount K) := ⟨_, _, _, (fk_cl_is_count S), g_is_count S, (d_is_count S).kp, b_is_count S⟩
/-- no count: below 0, or no integer -/
def NoCnt (K : PySem.W.Frag) (H : Hp) (v : V) : Prop := (∃ i : Int, v = .int i ∧ i < 0) ∨ NoInt K H v
def spCheckCount (K : PySem.W.Frag) : Sp := fun vs H Q E => ∃ v : V, vs = [v] ∧ ((∃ i : Int, v = .int i ∧ 0 ≤ i ∧ Q .non H) ∨ (NoCnt K H v ∧ Er1 K "BadNumber" "value" v H E))
theorem fk_cl_check_count {P : Program} {w : World} {base : Heap} (S : HD sys K mg) : FnOk P w K mg base (L2.CX P w) 3 (Pl.adr K (Pl.fn "check_count")) (fdAt K (Pl.adr K (Pl.fn "check_count"))) ["value"] (spCheckCount K) := by
  refine (d_check_count S).ok sc_check_count (fun vs H Q E h => ?_) (fun cdv A outer s H vs Q E hr h => ?_)
  · repeat (first | (obtain ⟨rfl, _⟩ := h; rfl) | (obtain ⟨_, h⟩ := h))
  · have nd := sc_check_count.nd
    refine ⟨_, ((pss_one (ps_if (pt_not (pt_val (pe_f (cl_is_count S) hr (by decide) pass0 (pa_cons (pv 0) pa_nil)))) (pss_one (ps_raise rfl (takes_of rfl rfl rfl rfl) (pmk_ex (ex_BadNumber S) hr (by decide) (pa_cons (pv 0) pa_nil)))) pss_nil))), ?_⟩
    try dsimp only [cxOf_K]
    obtain ⟨v, rfl, ⟨i, rfl, hi, k⟩ | ⟨⟨i, rfl, hi⟩ | hn, er⟩⟩ := h
    · refine go_start (σ' := [_]) rfl ?_
      walk_at "gm"
      refine ⟨_, rfl, .inl ⟨i, rfl, ?_⟩⟩
      rw [decide_eq_true hi]
      walk_at "gm"
      exact k
    · refine go_start (σ' := [_]) rfl ?_
      walk_at "gm"
      refine ⟨_, rfl, .inl ⟨i, rfl, ?_⟩⟩
      rw [decide_eq_false (by omega)]
      walk_at "gm"
      exact go_ex1 er.at
    · refine go_start (σ' := [_]) rfl ?_
      walk_at "gm"
      refine ⟨_, rfl, .inr ⟨hn, ?_⟩⟩
      walk_at "gm"
      exact go_ex1 er.at
theorem cl_check_count {P : Program} {w : World} {base : Heap} (S : HD sys K mg) : Cl P w K mg base (L2.CX P w) 3 "check_count" (spCheckCount K) := ⟨_, _, _, (fk_cl_check_count S), g_check_count S, (d_check_count S).kp, b_check_count S⟩
/-! ### ratios -/
def RtAt (C : Addr) (H : Hp) (a : Addr) (n d : Int) : Prop := ∃ dx, H a = some (.ins C dx [("top", .int n), ("bottom", .int d)])
/-- not great -/
def Nb (i : Int) : Prop := -100000000000000000000000000000000000000000000000000 < i ∧ i < 100000000000000000000000000000000000000000000000000
/-- what both parts are divided by -/
def sh (t b : Int) : Int := if b < 0 then -gc t b else gc t b
theorem gc_pos' {t b : Int} (h : b ≠ 0) : 0 < gc t b := by
  have := Nat.gcd_pos_of_pos_right t.natAbs (show 0 < b.natAbs by omega)
  unfold gc
  omega
theorem gc_le' {t b : Int} (h : b ≠ 0) : gc t b ≤ b.natAbs := by
  have := Nat.gcd_le_right t.natAbs (show 0 < b.natAbs by omega)
  unfold gc
  omega
theorem gc_neg {t b : Int} : gc (-t) (-b) = gc t b := by
  unfold gc
  rw [Int.natAbs_neg, Int.natAbs_neg]
theorem sh_pos {t b : Int} (h : 0 < b) : t.fdiv (sh t b) = t / gc t b ∧ b.fdiv (sh t b) = b / gc t b := by
  have g0 := gc_pos (t := t) h
  have e : sh t b = gc t b := if_neg (by omega)
  rw [e, Int.fdiv_eq_ediv_of_nonneg _ (by omega), Int.fdiv_eq_ediv_of_nonneg _ (by omega)]
  exact ⟨rfl, rfl⟩
theorem sh_neg {t b : Int} (h : b < 0) : t.fdiv (sh t b) = (-t) / gc (-t) (-b) ∧ b.fdiv (sh t b) = (-b) / gc (-t) (-b) := by
  have g0 := gc_pos' (t := t) (b := b) (by omega)
  have e : sh t b = -gc t b := if_pos h
  have a : ∀ x : Int, x.fdiv (-gc t b) = (-x) / gc t b := fun x => by
    have z := Int.neg_fdiv_neg (-x) (gc t b)
    rw [Int.neg_neg] at z
    rw [z, Int.fdiv_eq_ediv_of_nonneg _ (by omega)]
  rw [e, a, a, gc_neg]
  exact ⟨rfl, rfl⟩
def spRtInit (C : Addr) : Sp := fun vs H Q _ => ∃ (p dx : Addr) (t b : Int), vs = [.ref p, .int t, .int b] ∧ H p = some (.ins C dx []) ∧ b ≠ 0 ∧ Nb t ∧ Nb b ∧
  Q .non (upd H p (.ins C dx [("top", .int (t.fdiv (sh t b))), ("bottom", .int (b.fdiv (sh t b)))]))
theorem fk_mke_Ratio___init__ {P : Program} {w : World} {base : Heap} (S : HD sys K mg) : FnOk P w K mg base CX0 2 (Pl.adr K (Pl.me "Ratio" "__init__")) (fdAt K (Pl.adr K (Pl.me "Ratio" "__init__"))) ["self", "top", "bottom"] (spRtInit (ga K "Ratio")) := by
  refine (d_Ratio___init__ S).ok sc_Ratio___init__ (fun vs H Q E h => ?_) (fun cdv A outer s H vs Q E hr h => ?_)
  · repeat (first | (obtain ⟨rfl, _⟩ := h; rfl) | (obtain ⟨_, h⟩ := h))
  · have nd := sc_Ratio___init__.nd
    refine ⟨_, PSs.nox ((pss_cons (ps_if (pt_not (pt_val (pe_f (cl_is_integer S) hr (by decide) pass0 (pa_cons (pv 1) pa_nil)))) (pss_one ps_never) pss_nil)
    (pss_cons (ps_if (PW.pt (pw_or (pt_not (pt_val (pe_f (cl_is_integer S) hr (by decide) pass0 (pa_cons (pv 2) pa_nil)))) (pw_or1 (pt_cmpR op_eq (pv 2) pe_int (nomark _))))) (pss_one ps_never) pss_nil)
    (pss_cons (ps_set (i := 3) nd rfl (Or.inl rfl) (pe_callBfun cr_gcd (by rfl) (bf_gcd S) (pa_cons (pv 1) (pa_cons (pv 2) pa_nil))))
    (pss_cons (ps_if (pt_cmpR op_lt (pv 2) pe_int (nomark _)) (pss_one (ps_set (i := 3) nd rfl (Or.inl rfl) (pe_un un_neg (pv 3)))) pss_nil)
    (pss_cons (ps_fld (pv 0) (pe_op op_fdivV (pv 1) (pv 3)) rfl)
    (pss_one (ps_fld (pv 0) (pe_op op_fdivV (pv 2) (pv 3)) rfl)))))))), ?_⟩
    try dsimp only [cxOf_K]
    obtain ⟨p, dx, t, b, rfl, hp, hb, ⟨t1, t2⟩, ⟨b1, b2⟩, k⟩ := h
    have cCRatio := C_Ratio S
    have naRatiotop := na_Ratio_top S
    have naRatiobottom := na_Ratio_bottom S
    have g0 := gc_pos' (t := t) hb
    have g1 := gc_le' (t := t) hb
    unfold sh at k
    refine go_start (σ' := [_, _, _, none]) rfl ?_
    walk_at "gm"
    refine isInt_int ?_
    walk_at "gm"
    refine isInt_int ?_
    walk_at "gm"
    refine go_dec (fun z => absurd z hb) (fun _ => ?_)
    walk_at "gm"
    refine go_dec (fun z => ?_) (fun z => ?_)
    · rw [if_pos z] at k
      walk_at "gm"
      rw [upd_upd]
      exact k
    · rw [if_neg z] at k
      walk_at "gm"
      rw [upd_upd]
      exact k
theorem mke_Ratio {P : Program} {w : World} {base : Heap} (S : HD sys K mg) : Mke P w K mg base CX0 2 "Ratio" (spRtInit (ga K "Ratio")) := ⟨_, _, _, (fk_mke_Ratio___init__ S), mk_Ratio S, g_Ratio S, b_Ratio___init__ S⟩
theorem mked_Ratio_2 {P : Program} {w : World} {base : Heap} (S : HD sys K mg) : MkeD P w K mg base CX0 2 "Ratio" (spRtInit (ga K "Ratio")) [V.int (1)] := by
  obtain ⟨ds, v, b⟩ := bd_Ratio___init___2 S
  exact ⟨_, _, _, ds, (fk_mke_Ratio___init__ S), mk_Ratio S, g_Ratio S, b, v⟩
/-- v stands for n over d -/
def NumV (C : Addr) (H : Hp) (v : V) (n d : Int) : Prop := (∃ a, v = .ref a ∧ RtAt C H a n d) ∨ (v = .int n ∧ d = 1)
theorem gc_one (i : Int) : gc i 1 = 1 := by
  unfold gc
  simp
theorem rt_make1 {C : Addr} {H : Hp} {Q : VK} {E : XK} {i : Int} (v : Nb i) (k : ∀ x H', H x = none → Same H H' → RtAt C H' x i 1 → Q (.ref x) H') : rMakeD C (spRtInit C) [V.int 1] E [.int i] H Q := by
  intro x dx nx nd ne
  refine ⟨x, dx, i, 1, rfl, upd_same, by decide, v, ⟨by decide, by decide⟩, rfl, ?_⟩
  obtain ⟨e1, e2⟩ := sh_pos (t := i) (b := 1) (by decide)
  rw [e1, e2, gc_one, Int.ediv_one]
  refine k x _ nx (fun a o h => ?_) ⟨dx, upd_same⟩
  rw [upd_ne (ne_of_none h nx), upd_ne (ne_of_none h nx), upd_ne (ne_of_none h nd)]
  exact h
theorem rt_make {C : Addr} {H : Hp} {Q : VK} {E : XK} {t b : Int} (hb : 0 < b) (v : Nb t) (w : Nb b) (k : ∀ x H', H x = none → Same H H' → RtAt C H' x (t / gc t b) (b / gc t b) → Q (.ref x) H') : rMake C (spRtInit C) E [.int t, .int b] H Q := by
  intro x dx nx nd ne
  refine ⟨x, dx, t, b, rfl, upd_same, by omega, v, w, rfl, ?_⟩
  obtain ⟨e1, e2⟩ := sh_pos (t := t) (b := b) hb
  rw [e1, e2]
  refine k x _ nx (fun a o h => ?_) ⟨dx, upd_same⟩
  rw [upd_ne (ne_of_none h nx), upd_ne (ne_of_none h nx), upd_ne (ne_of_none h nd)]
  exact h
def spCmp (C : Addr) (f : Int → Int → Bool) : Sp := fun vs H Q _ => ∃ (a : Addr) (v : V) (n1 d1 n2 d2 : Int), vs = [.ref a, v] ∧ RtAt C H a n1 d1 ∧ NumV C H v n2 d2 ∧ Nb n1 ∧ Nb d1 ∧ Nb n2 ∧ Nb d2 ∧ ∀ H', Same H H' → Q (.bl (f (n1 * d2) (n2 * d1))) H'
/-- the same parts; v is none but a ratio or an integer -/
def spRtEq (C : Addr) : Sp := fun vs H Q _ => ∃ (a : Addr) (v : V) (n1 d1 n2 d2 : Int), vs = [.ref a, v] ∧ RtAt C H a n1 d1 ∧ NumV C H v n2 d2 ∧ Q (.bl (decide (n1 = n2 ∧ d1 = d2))) H
theorem fk_op_Ratio___eq__ {P : Program} {w : World} {base : Heap} (S : HD sys K mg) : FnOk P w K mg base CX0 2 (Pl.adr K (Pl.me "Ratio" "__eq__")) (fdAt K (Pl.adr K (Pl.me "Ratio" "__eq__"))) ["self", "other"] (spRtEq (ga K "Ratio")) := by
  refine (d_Ratio___eq__ S).ok sc_Ratio___eq__ (fun vs H Q E h => ?_) (fun cdv A outer s H vs Q E hr h => ?_)
  · repeat (first | (obtain ⟨rfl, _⟩ := h; rfl) | (obtain ⟨_, h⟩ := h))
  · have nd := sc_Ratio___eq__.nd
    refine ⟨_, PSs.nox ((pss_cons (ps_if (pt_val (pe_callB call_isi (by rfl) (n_isinstance S) (by decide +kernel) (pa_cons (pv 1) (pa_cons (pe_glob (v := .ref (ga K "Ratio")) rfl (g_Ratio S) rfl) pa_nil)))) (pss_one (ps_ret (pe_and (pe_cmpR op_eq (pe_fld (pv 0) rfl) (pe_fld (pv 1) rfl) (nomark _)) (pe_one (pe_cmpR op_eq (pe_fld (pv 0) rfl) (pe_fld (pv 1) rfl) (nomark _)))))) pss_nil)
    (pss_one (ps_ret (pe_and (pe_f (cl_is_integer S) hr (by decide) pass0 (pa_cons (pv 1) pa_nil)) (pe_and (pe_cmpR op_eq (pe_fld (pv 0) rfl) pe_int (nomark _)) (pe_one (pe_cmpR op_eq (pe_fld (pv 0) rfl) (pv 1) (nomark _))))))))), ?_⟩
    try dsimp only [cxOf_K]
    obtain ⟨a, v, n1, d1, n2, d2, rfl, ⟨dx, ha⟩, hv, k⟩ := h
    have cCRatio := C_Ratio S
    have naRatiotop := na_Ratio_top S
    have naRatiobottom := na_Ratio_bottom S
    refine go_start (σ' := [_, _]) rfl ?_
    rcases hv with ⟨c, rfl, ⟨dy, hc⟩⟩ | ⟨rfl, rfl⟩
    · walk_at "go"
      refine go_isi (.own _) (tyIns (in_Ratio S) hc) (kit_o_Ratio__o_Ratio__true S) ?_
      walk_at "go"
      refine go_dec (fun z => ?_) (fun z => ?_)
      · cases z
        walk_at "go"
        refine bl_of (R := fun v => Q v H) ?_ k
        simp
      · walk_at "go"
        refine bl_of (R := fun v => Q v H) ?_ k
        simp_all
    · walk_at "go"
      refine go_isi (.own _) (.base (.int n2)) (kit_int__o_Ratio__false S) ?_
      walk_at "go"
      refine isInt_int ?_
      walk_at "go"
      refine go_dec (fun z => ?_) (fun z => ?_)
      · cases z
        walk_at "go"
        refine bl_of (R := fun v => Q v H) ?_ k
        simp
      · walk_at "go"
        refine bl_of (R := fun v => Q v H) ?_ k
        simp_all
theorem op_Ratio___eq__ {P : Program} {w : World} {base : Heap} (S : HD sys K mg) : Op P w K mg base CX0 2 (ga K "Ratio") "__eq__" (spRtEq (ga K "Ratio")) := ⟨_, _, _, (fk_op_Ratio___eq__ S), (opf_Ratio___eq__ S).1, (opf_Ratio___eq__ S).2, b_Ratio___eq__ S⟩
/-! ### buckets of any values -/
abbrev bkF (b r e : Int) : List (Str × V) := [("burst", .int b), ("rate", .int r), ("every", .int e)]
def BkAt (C : Addr) (H : Hp) (a : Addr) (b r e : Int) : Prop := ∃ dx, H a = some (.ins C dx (bkF b r e))
theorem BkAt.sm {C : Addr} {H H' : Hp} {a : Addr} {b r e : Int} (h : BkAt C H a b r e) (s : Same H H') : BkAt C H' a b r e := h.imp fun _ h => s _ _ h
theorem BkAt.xt {C : Addr} {H H' : Hp} {a : Addr} {b r e : Int} (h : BkAt C H a b r e) (s : LamX.ExtN H H') : BkAt C H' a b r e := h.imp fun _ h => s _ _ h (by intro _ z; cases z)
theorem BkAt.kp {C : Addr} {H H' : Hp} {a p : Addr} {b r e : Int} {xs : List V} (h : BkAt C H a b r e) (s : Kp p H H') (hp : H p = some (.lst xs)) : BkAt C H' a b r e := h.imp fun _ h => s _ _ h fun z => by rw [z, hp] at h; cases h
def Bv (b r e : Int) : Prop := 1 ≤ b ∧ b ≤ 1000000 ∧ 1 ≤ r ∧ r ≤ 1000 ∧ 1 ≤ e ∧ e ≤ 1000
/-- a part of a bucket up to m -/
def partB (m : Int) : V → Bool
  | .int i => decide (1 ≤ i) && decide (i ≤ m)
  | _ => false
theorem within_part {H : Hp} {Q : VK} {E : XK} {v : V} {m : Int} (h : IntOrNo K H v) (k : Q (.bl (partB m v)) H) : spWithin K [v, .int 1, .int m] H Q E := by
  rcases h with ⟨i, rfl⟩ | ⟨hn, ni⟩
  · exact ⟨_, 1, m, rfl, .inl ⟨i, rfl, k⟩⟩
  · refine ⟨_, 1, m, rfl, .inr ⟨hn, ?_⟩⟩
    cases v with
    | int i => exact absurd rfl (ni i)
    | _ => exact k
/-- the name of the first wrong part -/
def badPart (v1 v2 v3 : V) : Option Str := if partB 1000000 v1 = false then some "burst" else if partB 1000 v2 = false then some "rate" else if partB 1000 v3 = false then some "every" else none
theorem fk_ex_BadBucket___init__ {P : Program} {w : World} {base : Heap} (S : HD sys K mg) : FnOk P w K mg base CX0 1 (Pl.adr K (Pl.me "BadBucket" "__init__")) (fdAt K (Pl.adr K (Pl.me "BadBucket" "__init__"))) ["self", "part"] (spEx1 (ga K "BadBucket") "part") := by
  refine (d_BadBucket___init__ S).ok sc_BadBucket___init__ (fun vs H Q E h => ?_) (fun cdv A outer s H vs Q E hr h => ?_)
  · repeat (first | (obtain ⟨rfl, _⟩ := h; rfl) | (obtain ⟨_, h⟩ := h))
  · have nd := sc_BadBucket___init__.nd
    refine ⟨_, PSs.nox ((pss_one (ps_ost (pv 0) (pv 1)))), ?_⟩
    try dsimp only [cxOf_K]
    obtain ⟨a, v, rfl, ha, k⟩ := h
    refine go_start (σ' := [_, _]) rfl ?_
    walk_at "go"
    refine go_ost1 (exo_BadBucket S).oex (na_BadBucket_part S) ha fun dx n ne => ?_
    walk_at "go"
    exact k dx n ne
theorem ex_BadBucket {P : Program} {w : World} {base : Heap} (S : HD sys K mg) : Ex P w K mg base 1 "BadBucket" (spEx1 (ga K "BadBucket") "part") := ⟨_, _, (fk_ex_BadBucket___init__ S), exo_BadBucket S, g_BadBucket S, b_BadBucket___init__ S⟩
def spBkInit (K : PySem.W.Frag) : Sp := fun vs H Q E => ∃ (p dx : Addr) (v1 v2 v3 : V), vs = [.ref p, v1, v2, v3] ∧ H p = some (.ins (ga K "Bucket") dx []) ∧ (IntOrNo K H v1 ∧ IntOrNo K H v2 ∧ IntOrNo K H v3) ∧
  (badPart v1 v2 v3 = none → Q .non (upd H p (.ins (ga K "Bucket") dx [("burst", v1), ("rate", v2), ("every", v3)]))) ∧ (∀ w, badPart v1 v2 v3 = some w → Er1 K "BadBucket" "part" (.str w) H E)
theorem fk_mke_Bucket___init__ {P : Program} {w : World} {base : Heap} (S : HD sys K mg) : FnOk P w K mg base (L2.CX P w) 3 (Pl.adr K (Pl.me "Bucket" "__init__")) (fdAt K (Pl.adr K (Pl.me "Bucket" "__init__"))) ["self", "burst", "rate", "every"] (spBkInit K) := by
  refine (d_Bucket___init__ S).ok sc_Bucket___init__ (fun vs H Q E h => ?_) (fun cdv A outer s H vs Q E hr h => ?_)
  · repeat (first | (obtain ⟨rfl, _⟩ := h; rfl) | (obtain ⟨_, h⟩ := h))
  · have nd := sc_Bucket___init__.nd
    refine ⟨_, ((pss_cons (ps_if (pt_not (pt_val (pe_f (cl_is_within S) hr (by decide) pass0 (pa_cons (pv 1) (pa_cons pe_int (pa_cons (ClX.pe_cval (pe_glob (v := .ref (ga K "Bucket")) rfl (g_Bucket S) rfl)) pa_nil)))))) (pss_one (ps_raise rfl (takes_of rfl rfl rfl rfl) (pmk_ex (ex_BadBucket S) hr (by decide) (pa_cons pe_str pa_nil)))) pss_nil)
    (pss_cons (ps_if (pt_not (pt_val (pe_f (cl_is_within S) hr (by decide) pass0 (pa_cons (pv 2) (pa_cons pe_int (pa_cons (ClX.pe_cval (pe_glob (v := .ref (ga K "Bucket")) rfl (g_Bucket S) rfl)) pa_nil)))))) (pss_one (ps_raise rfl (takes_of rfl rfl rfl rfl) (pmk_ex (ex_BadBucket S) hr (by decide) (pa_cons pe_str pa_nil)))) pss_nil)
    (pss_cons (ps_if (pt_not (pt_val (pe_f (cl_is_within S) hr (by decide) pass0 (pa_cons (pv 3) (pa_cons pe_int (pa_cons (ClX.pe_cval (pe_glob (v := .ref (ga K "Bucket")) rfl (g_Bucket S) rfl)) pa_nil)))))) (pss_one (ps_raise rfl (takes_of rfl rfl rfl rfl) (pmk_ex (ex_BadBucket S) hr (by decide) (pa_cons pe_str pa_nil)))) pss_nil)
    (pss_cons (ps_fld (pv 0) (pv 1) rfl)
    (pss_cons (ps_fld (pv 0) (pv 2) rfl)
    (pss_one (ps_fld (pv 0) (pv 3) rfl)))))))), ?_⟩
    try dsimp only [cxOf_K]
    obtain ⟨p, dx, v1, v2, v3, rfl, hp, hi, k, er⟩ := h
    obtain ⟨i1, i2, i3⟩ := hi
    have cCBucket := C_Bucket S
    have naBucketburst := na_Bucket_burst S
    have naBucketrate := na_Bucket_rate S
    have naBucketevery := na_Bucket_every S
    have crBucket := cr_Bucket S
    obtain ⟨_, cvBucketMOST_BURST⟩ := cv_Bucket_MOST_BURST S
    obtain ⟨_, cvBucketMOST_RATE⟩ := cv_Bucket_MOST_RATE S
    obtain ⟨_, cvBucketMOST_EVERY⟩ := cv_Bucket_MOST_EVERY S
    refine go_start (σ' := [_, _, _, _]) rfl ?_
    walk_at "gm"
    refine within_part i1 ?_
    cases e1 : partB 1000000 v1 with
    | false =>
      walk_at "gm"
      exact go_ex1 (er _ (by unfold badPart; rw [if_pos e1])).at
    | true =>
      walk_at "gm"
      refine within_part i2 ?_
      cases e2 : partB 1000 v2 with
      | false =>
        walk_at "gm"
        exact go_ex1 (er _ (by unfold badPart; rw [if_neg (by rw [e1]; decide), if_pos e2])).at
      | true =>
        walk_at "gm"
        refine within_part i3 ?_
        cases e3 : partB 1000 v3 with
        | false =>
          walk_at "gm"
          exact go_ex1 (er _ (by unfold badPart; rw [if_neg (by rw [e1]; decide), if_neg (by rw [e2]; decide), if_pos e3])).at
        | true =>
          walk_at "gm"
          rw [upd_upd, upd_upd]
          exact k (by unfold badPart; rw [if_neg (by rw [e1]; decide), if_neg (by rw [e2]; decide), if_neg (by rw [e3]; decide)])
theorem mke_Bucket {P : Program} {w : World} {base : Heap} (S : HD sys K mg) : Mke P w K mg base (L2.CX P w) 3 "Bucket" (spBkInit K) := ⟨_, _, _, (fk_mke_Bucket___init__ S), mk_Bucket S, g_Bucket S, b_Bucket___init__ S⟩
def kgf_mkk_Bucket_every_rate_burst {α : Type} (a c : List α) : List α := match a, c with | [s0], [k0, k1, k2] => [s0, k2, k1, k0] | _, _ => []
theorem mkk_Bucket_every_rate_burst {P : Program} {w : World} {base : Heap} (S : HD sys K mg) : MkeK P w K mg base (L2.CX P w) 3 "Bucket" (spBkInit K) 0 ["every", "rate", "burst"] (fun vs zs => kgf_mkk_Bucket_every_rate_burst vs zs) := by
  have b := (d_Bucket___init__ S).kbindsP (ps := ["self", "burst", "rate", "every"]) 1 ["every", "rate", "burst"] (fun {_} a c => kgf_mkk_Bucket_every_rate_burst a c) (fun r1 r3 => by
      rcases r1 with _ | ⟨a1, _ | ⟨_, _⟩⟩ <;> rcases r3 with _ | ⟨c0, _ | ⟨c1, _ | ⟨c2, _ | ⟨_, _⟩⟩⟩⟩ <;> first | exact .nil | skip
      exact .cons a1 (.cons c2 (.cons c1 (.cons c0 (.nil)))))
    (fun kV doc pm an cdv ct us ws h1 h3 => match us, h1, ws, h3 with | [_], _, [_, _, _], _ => rfl)
  exact ⟨_, _, _, _, (fk_mke_Bucket___init__ S), mk_Bucket S, g_Bucket S, b⟩
def spBound (C : Addr) : Sp := fun vs H Q _ => ∃ (a : Addr) (b r e t : Int), vs = [.ref a, .int t] ∧ BkAt C H a b r e ∧ Bv b r e ∧ Q (.int (Bk.bnd b r e t)) H
theorem fk_cl_bound_of {P : Program} {w : World} {base : Heap} (S : HD sys K mg) : FnOk P w K mg base CX0 1 (Pl.adr K (Pl.fn "bound_of")) (fdAt K (Pl.adr K (Pl.fn "bound_of"))) ["bucket", "ticks"] (spBound (ga K "Bucket")) := by
  refine (d_bound_of S).ok sc_bound_of (fun vs H Q E h => ?_) (fun cdv A outer s H vs Q E hr h => ?_)
  · repeat (first | (obtain ⟨rfl, _⟩ := h; rfl) | (obtain ⟨_, h⟩ := h))
  · have nd := sc_bound_of.nd
    refine ⟨_, PSs.nox ((pss_one (ps_ret (pe_op op_add (pe_fld (pv 0) rfl) (pe_op op_mul (pe_fld (pv 0) rfl) (pe_op op_fdiv (pv 1) (pe_fld (pv 0) rfl))))))), ?_⟩
    try dsimp only [cxOf_K]
    obtain ⟨a, b, r, e, t, rfl, ⟨dx, ha⟩, ⟨b1, b2, r1, r2, e1, e2⟩, k⟩ := h
    have cCBucket := C_Bucket S
    have naBucketburst := na_Bucket_burst S
    have naBucketrate := na_Bucket_rate S
    have naBucketevery := na_Bucket_every S
    refine go_start (σ' := [_, _]) rfl ?_
    walk_at "gm"
    exact k
theorem cl_bound_of {P : Program} {w : World} {base : Heap} (S : HD sys K mg) : Cl P w K mg base CX0 1 "bound_of" (spBound (ga K "Bucket")) := ⟨_, _, _, (fk_cl_bound_of S), g_bound_of S, (d_bound_of S).kp, b_bound_of S⟩
def spBkCall (K : PySem.W.Frag) : Sp := fun vs H Q E => ∃ (a : Addr) (v : V) (b r e : Int), vs = [.ref a, v] ∧ BkAt (ga K "Bucket") H a b r e ∧ Bv b r e ∧ ((∃ t : Int, v = .int t ∧ 0 ≤ t ∧ Q (.int (Bk.bnd b r e t)) H) ∨ (NoCnt K H v ∧ Er1 K "BadNumber" "value" v H E))
theorem fk_ca_Bucket___call__ {P : Program} {w : World} {base : Heap} (S : HD sys K mg) : FnOk P w K mg base (L2.CX P w) 4 (Pl.adr K (Pl.me "Bucket" "__call__")) (fdAt K (Pl.adr K (Pl.me "Bucket" "__call__"))) ["self", "ticks"] (spBkCall K) := by
  refine (d_Bucket___call__ S).ok sc_Bucket___call__ (fun vs H Q E h => ?_) (fun cdv A outer s H vs Q E hr h => ?_)
  · repeat (first | (obtain ⟨rfl, _⟩ := h; rfl) | (obtain ⟨_, h⟩ := h))
  · have nd := sc_Bucket___call__.nd
    refine ⟨_, ((pss_cons (ps_expr (pe_f (cl_check_count S) hr (by decide) (passes_call (takes_of rfl rfl rfl rfl) (fun _ _ _ _ h => h)) (pa_cons (pv 1) pa_nil)))
    (pss_one (ps_ret (pe_f (cl_bound_of S) hr (by decide) pass0 (pa_cons (pv 0) (pa_cons (pv 1) pa_nil))))))), ?_⟩
    try dsimp only [cxOf_K]
    obtain ⟨a, v, b, r, e, rfl, hb, bv, ⟨t, rfl, t0, k⟩ | ⟨hn, er⟩⟩ := h
    · obtain ⟨dx, ha⟩ := id hb
      refine go_start (σ' := [_, _]) rfl ?_
      walk_at "gm"
      refine ⟨_, rfl, .inl ⟨t, rfl, t0, ?_⟩⟩
      walk_at "gm"
      exact ⟨a, b, r, e, t, rfl, hb, bv, k⟩
    · refine go_start (σ' := [_, _]) rfl ?_
      walk_at "gm"
      exact ⟨_, rfl, .inr ⟨hn, er⟩⟩
theorem ca_Bucket {P : Program} {w : World} {base : Heap} (S : HD sys K mg) : Ca P w K mg base (L2.CX P w) 4 (ga K "Bucket") (spBkCall K) := ⟨_, _, _, (fk_ca_Bucket___call__ S), (opf_Bucket___call__ S).1, (opf_Bucket___call__ S).2, fn_of (d_Bucket___call__ S), b_Bucket___call__ S⟩
def kgf_cak_Bucket_ticks {α : Type} (a c : List α) : List α := match a, c with | [s0], [k0] => [s0, k0] | _, _ => []
theorem cak_Bucket_ticks {P : Program} {w : World} {base : Heap} (S : HD sys K mg) : CaK P w K mg base (L2.CX P w) 4 (ga K "Bucket") (spBkCall K) ["ticks"] (fun vs zs => kgf_cak_Bucket_ticks vs zs) := by
  have b := (d_Bucket___call__ S).kbindsP (ps := ["self", "ticks"]) 1 ["ticks"] (fun {_} a c => kgf_cak_Bucket_ticks a c) (fun r1 r3 => by
      rcases r1 with _ | ⟨a1, _ | ⟨_, _⟩⟩ <;> rcases r3 with _ | ⟨c0, _ | ⟨_, _⟩⟩ <;> first | exact .nil | skip
      exact .cons a1 (.cons c0 (.nil)))
    (fun kV doc pm an cdv ct us ws h1 h3 => match us, h1, ws, h3 with | [_], _, [_], _ => rfl)
  exact ⟨_, _, _, _, (fk_ca_Bucket___call__ S), (opf_Bucket___call__ S).1, (opf_Bucket___call__ S).2, fn_of (d_Bucket___call__ S), b⟩
def spEarliest (K : PySem.W.Frag) : Sp := fun vs H Q E => ∃ (a : Addr) (v : V) (b r e : Int), vs = [.ref a, v] ∧ BkAt (ga K "Bucket") H a b r e ∧ Bv b r e ∧ ((∃ t : Int, v = .int t ∧ 0 ≤ t ∧ Q (.int (Bk.early b r e t)) H) ∨ (NoCnt K H v ∧ Er1 K "BadNumber" "value" v H E))
theorem fk_me_Bucket_earliest {P : Program} {w : World} {base : Heap} (S : HD sys K mg) : FnOk P w K mg base (L2.CX P w) 4 (Pl.adr K (Pl.me "Bucket" "earliest")) (fdAt K (Pl.adr K (Pl.me "Bucket" "earliest"))) ["self", "bits"] (spEarliest K) := by
  refine (d_Bucket_earliest S).ok sc_Bucket_earliest (fun vs H Q E h => ?_) (fun cdv A outer s H vs Q E hr h => ?_)
  · repeat (first | (obtain ⟨rfl, _⟩ := h; rfl) | (obtain ⟨_, h⟩ := h))
  · have nd := sc_Bucket_earliest.nd
    refine ⟨_, ((pss_cons (ps_expr (pe_f (cl_check_count S) hr (by decide) (passes_call (takes_of rfl rfl rfl rfl) (fun _ _ _ _ h => h)) (pa_cons (pv 1) pa_nil)))
    (pss_one (ps_ret (pe_op op_mul (pe_fld (pv 0) rfl) (pe_callB (call_max2 rfl) (by rfl) (n_max S) (by decide +kernel) (pa_cons pe_int (pa_cons (pe_un un_neg (pe_op op_fdiv (pe_op op_sub (pe_fld (pv 0) rfl) (pv 1)) (pe_fld (pv 0) rfl))) pa_nil)))))))), ?_⟩
    try dsimp only [cxOf_K]
    have cCBucket := C_Bucket S
    have naBucketburst := na_Bucket_burst S
    have naBucketrate := na_Bucket_rate S
    have naBucketevery := na_Bucket_every S
    obtain ⟨a, v, b, r, e, rfl, ⟨dx, ha⟩, ⟨b1, b2, r1, r2, e1, e2⟩, ⟨t, rfl, t0, k⟩ | ⟨hn, er⟩⟩ := h
    · refine go_start (σ' := [_, _]) rfl ?_
      walk_at "gm"
      refine ⟨_, rfl, .inl ⟨t, rfl, t0, ?_⟩⟩
      walk_at "gm"
      exact k
    · refine go_start (σ' := [_, _]) rfl ?_
      walk_at "gm"
      exact ⟨_, rfl, .inr ⟨hn, er⟩⟩
theorem me_Bucket_earliest {P : Program} {w : World} {base : Heap} (S : HD sys K mg) : Me P w K mg base (L2.CX P w) 4 (ga K "Bucket") "earliest" (spEarliest K) := ⟨_, _, _, (fk_me_Bucket_earliest S), C_Bucket S, mt_Bucket_earliest S, b_Bucket_earliest S⟩
def kgf_mek_Bucket_earliest_bits {α : Type} (a c : List α) : List α := match a, c with | [s0], [k0] => [s0, k0] | _, _ => []
theorem mek_Bucket_earliest_bits {P : Program} {w : World} {base : Heap} (S : HD sys K mg) : MeK P w K mg base (L2.CX P w) 4 (ga K "Bucket") "earliest" (spEarliest K) ["bits"] (fun vs zs => kgf_mek_Bucket_earliest_bits vs zs) := by
  have b := (d_Bucket_earliest S).kbindsP (ps := ["self", "bits"]) 1 ["bits"] (fun {_} a c => kgf_mek_Bucket_earliest_bits a c) (fun r1 r3 => by
      rcases r1 with _ | ⟨a1, _ | ⟨_, _⟩⟩ <;> rcases r3 with _ | ⟨c0, _ | ⟨_, _⟩⟩ <;> first | exact .nil | skip
      exact .cons a1 (.cons c0 (.nil)))
    (fun kV doc pm an cdv ct us ws h1 h3 => match us, h1, ws, h3 with | [_], _, [_], _ => rfl)
  exact ⟨_, _, _, _, (fk_me_Bucket_earliest S), C_Bucket S, mt_Bucket_earliest S, b⟩
def spRateOf (K : PySem.W.Frag) : Sp := fun vs H Q _ => ∃ (a : Addr) (b r e : Int), vs = [.ref a] ∧ BkAt (ga K "Bucket") H a b r e ∧ Bv b r e ∧ ∀ x H', H x = none → Same H H' → RtAt (ga K "Ratio") H' x (r / gc r e) (e / gc r e) → Q (.ref x) H'
theorem fk_pr_Bucket_rate_of {P : Program} {w : World} {base : Heap} (S : HD sys K mg) : FnOk P w K mg base CX0 4 (Pl.adr K (Pl.pr "Bucket" "rate_of")) (fdAt K (Pl.adr K (Pl.pr "Bucket" "rate_of"))) ["self"] (spRateOf K) := by
  refine (d_Bucket_rate_of S).ok sc_Bucket_rate_of (fun vs H Q E h => ?_) (fun cdv A outer s H vs Q E hr h => ?_)
  · repeat (first | (obtain ⟨rfl, _⟩ := h; rfl) | (obtain ⟨_, h⟩ := h))
  · have nd := sc_Bucket_rate_of.nd
    refine ⟨_, PSs.nox ((pss_one (ps_ret (pe_mke (mke_Ratio S) hr (by decide) pass0 (pa_cons (pe_fld (pv 0) rfl) (pa_cons (pe_fld (pv 0) rfl) pa_nil)))))), ?_⟩
    try dsimp only [cxOf_K]
    obtain ⟨a, b, r, e, rfl, ⟨dx, ha⟩, ⟨b1, b2, r1, r2, e1, e2⟩, k⟩ := h
    have cCBucket := C_Bucket S
    have naBucketburst := na_Bucket_burst S
    have naBucketrate := na_Bucket_rate S
    have naBucketevery := na_Bucket_every S
    refine go_start (σ' := [_]) rfl ?_
    walk_at "gm"
    exact rt_make (by omega) ⟨by omega, by omega⟩ ⟨by omega, by omega⟩ k
theorem pr_Bucket_rate_of {P : Program} {w : World} {base : Heap} (S : HD sys K mg) : Pr P w K mg base CX0 4 (ga K "Bucket") "rate_of" (spRateOf K) := ⟨_, _, _, _, (fk_pr_Bucket_rate_of S), C_Bucket S, prp_Bucket_rate_of S, b_Bucket_rate_of S⟩
def spFits (K : PySem.W.Frag) : Sp := fun vs H Q E => ∃ (a : Addr) (v : V) (b r e : Int), vs = [.ref a, v] ∧ BkAt (ga K "Bucket") H a b r e ∧ Bv b r e ∧ ((∃ c ms, v = .ref c ∧ LnAt (ga K "Lengths") H c ms ∧ Q (.bl (decide ((ms.getLast! : Nat) + r - 1 ≤ b))) H) ∨ (NoLn K H v ∧ Er1 K "BadLengths" "part" (.str "lengths") H E))
theorem fk_me_Bucket_fits {P : Program} {w : World} {base : Heap} (S : HD sys K mg) : FnOk P w K mg base (L2.CX P w) 4 (Pl.adr K (Pl.me "Bucket" "fits")) (fdAt K (Pl.adr K (Pl.me "Bucket" "fits"))) ["self", "lengths"] (spFits K) := by
  refine (d_Bucket_fits S).ok sc_Bucket_fits (fun vs H Q E h => ?_) (fun cdv A outer s H vs Q E hr h => ?_)
  · repeat (first | (obtain ⟨rfl, _⟩ := h; rfl) | (obtain ⟨_, h⟩ := h))
  · have nd := sc_Bucket_fits.nd
    refine ⟨_, ((pss_cons (ps_expr (pe_f (cl_check_lengths S) hr (by decide) (passes_call (takes_of rfl rfl rfl rfl) (fun _ _ _ _ h => h)) (pa_cons (pv 1) pa_nil)))
    (pss_one (ps_ret (pe_cmpR op_ge (pe_fld (pv 0) rfl) (pe_op op_sub (pe_op op_add (pe_prp (pr_Lengths_longest S) hr (by decide) pass0 (pv 1)) (pe_fld (pv 0) rfl)) pe_int) (nomark _)))))), ?_⟩
    try dsimp only [cxOf_K]
    have cCBucket := C_Bucket S
    have naBucketburst := na_Bucket_burst S
    have naBucketrate := na_Bucket_rate S
    have naBucketevery := na_Bucket_every S
    obtain ⟨a, v, b, r, e, rfl, ⟨dx, ha⟩, bv, ⟨c, ms, rfl, L, k⟩ | ⟨hn, er⟩⟩ := h
    · obtain ⟨dy, tn, tr, tl, M, Lc⟩ := id L
      refine go_start (σ' := [_, _]) rfl ?_
      walk_at "gm"
      refine ⟨_, rfl, .inl ⟨c, ms, rfl, L, ?_⟩⟩
      walk_at "gm"
      refine go_prpx Lc.at_ ⟨c, ms, rfl, L, ?_⟩
      walk_at "gm"
      exact k
    · refine go_start (σ' := [_, _]) rfl ?_
      walk_at "gm"
      exact ⟨_, rfl, .inr ⟨hn, er⟩⟩
theorem me_Bucket_fits {P : Program} {w : World} {base : Heap} (S : HD sys K mg) : Me P w K mg base (L2.CX P w) 4 (ga K "Bucket") "fits" (spFits K) := ⟨_, _, _, (fk_me_Bucket_fits S), C_Bucket S, mt_Bucket_fits S, b_Bucket_fits S⟩
def kgf_mek_Bucket_fits_lengths {α : Type} (a c : List α) : List α := match a, c with | [s0], [k0] => [s0, k0] | _, _ => []
theorem mek_Bucket_fits_lengths {P : Program} {w : World} {base : Heap} (S : HD sys K mg) : MeK P w K mg base (L2.CX P w) 4 (ga K "Bucket") "fits" (spFits K) ["lengths"] (fun vs zs => kgf_mek_Bucket_fits_lengths vs zs) := by
  have b := (d_Bucket_fits S).kbindsP (ps := ["self", "lengths"]) 1 ["lengths"] (fun {_} a c => kgf_mek_Bucket_fits_lengths a c) (fun r1 r3 => by
      rcases r1 with _ | ⟨a1, _ | ⟨_, _⟩⟩ <;> rcases r3 with _ | ⟨c0, _ | ⟨_, _⟩⟩ <;> first | exact .nil | skip
      exact .cons a1 (.cons c0 (.nil)))
    (fun kV doc pm an cdv ct us ws h1 h3 => match us, h1, ws, h3 with | [_], _, [_], _ => rfl)
  exact ⟨_, _, _, _, (fk_me_Bucket_fits S), C_Bucket S, mt_Bucket_fits S, b⟩
def NoBk (K : PySem.W.Frag) (H : Hp) (v : V) : Prop := ∃ t : Value, TyX K H v t ∧ PySem.W.kitOne K t (.ref (ga K "Bucket")) = some false
def spBkEq (K : PySem.W.Frag) : Sp := fun vs H Q _ => ∃ (a : Addr) (v : V) (b1 r1 e1 : Int), vs = [.ref a, v] ∧ BkAt (ga K "Bucket") H a b1 r1 e1 ∧ ((∃ (c : Addr) (b2 r2 e2 : Int), v = .ref c ∧ BkAt (ga K "Bucket") H c b2 r2 e2 ∧ Q (.bl (decide (b1 = b2 ∧ r1 = r2 ∧ e1 = e2))) H) ∨ (NoBk K H v ∧ Q (.bl false) H))
theorem fk_op_Bucket___eq__ {P : Program} {w : World} {base : Heap} (S : HD sys K mg) : FnOk P w K mg base CX0 1 (Pl.adr K (Pl.me "Bucket" "__eq__")) (fdAt K (Pl.adr K (Pl.me "Bucket" "__eq__"))) ["self", "other"] (spBkEq K) := by
  refine (d_Bucket___eq__ S).ok sc_Bucket___eq__ (fun vs H Q E h => ?_) (fun cdv A outer s H vs Q E hr h => ?_)
  · repeat (first | (obtain ⟨rfl, _⟩ := h; rfl) | (obtain ⟨_, h⟩ := h))
  · have nd := sc_Bucket___eq__.nd
    refine ⟨_, PSs.nox ((pss_one (ps_ret (pe_and (pe_callB call_isi (by rfl) (n_isinstance S) (by decide +kernel) (pa_cons (pv 1) (pa_cons (pe_glob (v := .ref (ga K "Bucket")) rfl (g_Bucket S) rfl) pa_nil))) (pe_and (pe_cmpR op_eq (pe_fld (pv 0) rfl) (pe_fld (pv 1) rfl) (nomark _)) (pe_and (pe_cmpR op_eq (pe_fld (pv 0) rfl) (pe_fld (pv 1) rfl) (nomark _)) (pe_one (pe_cmpR op_eq (pe_fld (pv 0) rfl) (pe_fld (pv 1) rfl) (nomark _))))))))), ?_⟩
    try dsimp only [cxOf_K]
    have cCBucket := C_Bucket S
    have naBucketburst := na_Bucket_burst S
    have naBucketrate := na_Bucket_rate S
    have naBucketevery := na_Bucket_every S
    obtain ⟨a, v, b1, r1, e1, rfl, ⟨dx, ha⟩, ⟨c, b2, r2, e2, rfl, ⟨dy, hc⟩, k⟩ | ⟨⟨t, ty, kt⟩, k⟩⟩ := h
    · refine go_start (σ' := [_, _]) rfl ?_
      walk_at "gm"
      refine go_isi (.own _) (tyIns (in_Bucket S) hc) (kit_o_Bucket__o_Bucket__true S) ?_
      walk_at "gm"
      refine go_dec (fun z => ?_) (fun z => ?_)
      · walk_at "gm"
        refine go_dec (fun z2 => ?_) (fun z2 => ?_)
        · walk_at "gm"
          refine bl_of (R := fun v => Q v H) ?_ k
          simp [z, z2]
        · walk_at "gm"
          refine bl_of (R := fun v => Q v H) ?_ k
          simp [z2]
      · walk_at "gm"
        refine bl_of (R := fun v => Q v H) ?_ k
        simp [z]
    · refine go_start (σ' := [_, _]) rfl ?_
      walk_at "gm"
      refine go_isi (.own _) ty kt ?_
      walk_at "gm"
      exact k
theorem op_Bucket___eq__ {P : Program} {w : World} {base : Heap} (S : HD sys K mg) : Op P w K mg base CX0 1 (ga K "Bucket") "__eq__" (spBkEq K) := ⟨_, _, _, (fk_op_Bucket___eq__ S), (opf_Bucket___eq__ S).1, (opf_Bucket___eq__ S).2, b_Bucket___eq__ S⟩
theorem len_num {i : Int} (h0 : 0 ≤ i) (h1 : i < 10000000000000000000000000000000000000000000000000000000000000) : (Str.ofString (toString i)).length ≤ 61 := by
  obtain ⟨n, rfl⟩ := Int.eq_ofNat_of_zero_le h0
  rw [TL.len_tl, TL.tl_num]
  exact TL.numL_len (by decide) (by omega)
/-- the text of a bucket -/
def strB (b r e : Int) : Str := (((Str.empty ++ (toString b : Str)) ++ " " ++ (toString r : Str)) ++ " ") ++ (toString e : Str)
def spBkStr (C : Addr) : Sp := fun vs H Q _ => ∃ (a : Addr) (b r e : Int), vs = [.ref a] ∧ BkAt C H a b r e ∧ Bv b r e ∧ Q (.str (strB b r e)) H
theorem fk_op_Bucket___str__ {P : Program} {w : World} {base : Heap} (S : HD sys K mg) : FnOk P w K mg base CX0 1 (Pl.adr K (Pl.me "Bucket" "__str__")) (fdAt K (Pl.adr K (Pl.me "Bucket" "__str__"))) ["self"] (spBkStr (ga K "Bucket")) := by
  refine (d_Bucket___str__ S).ok sc_Bucket___str__ (fun vs H Q E h => ?_) (fun cdv A outer s H vs Q E hr h => ?_)
  · repeat (first | (obtain ⟨rfl, _⟩ := h; rfl) | (obtain ⟨_, h⟩ := h))
  · have nd := sc_Bucket___str__.nd
    refine ⟨_, PSs.nox ((pss_one (ps_ret (pe_joined (.cons (pe_fmt (pe_fld (pv 0) rfl)) (.cons pe_str (.cons (pe_fmt (pe_fld (pv 0) rfl)) (.cons pe_str (.cons (pe_fmt (pe_fld (pv 0) rfl)) .nil))))))))), ?_⟩
    try dsimp only [cxOf_K]
    obtain ⟨a, b, r, e, rfl, ⟨dx, ha⟩, ⟨b1, b2, r1, r2, e1, e2⟩, k⟩ := h
    have cCBucket := C_Bucket S
    have naBucketburst := na_Bucket_burst S
    have naBucketrate := na_Bucket_rate S
    have naBucketevery := na_Bucket_every S
    refine go_start (σ' := [_]) rfl ?_
    have tn : ∀ {i : Int}, 1 ≤ i → i ≤ 1000000 → i.natAbs.log2 < 1920 := fun {i} h0 h1 => Nat.lt_of_le_of_lt (Nat.le_of_lt_succ ((Nat.log2_lt (by omega)).mpr (Nat.lt_of_le_of_lt (show i.natAbs ≤ 1000000 by omega) (by decide : 1000000 < 2 ^ 20)))) (by decide)
    have l1 := len_num (i := b) (by omega) (by omega)
    have l2 := len_num (i := r) (by omega) (by omega)
    have l3 := len_num (i := e) (by omega) (by omega)
    walk_at "gm"
    refine fmt_int (tn b1 b2) ?_
    refine go_jsx (by show 0 + _ ≤ _; omega) ?_
    walk_at "gm"
    refine go_jsx (by rw [PySem.Str.length_append]; show 0 + _ + 1 ≤ _; omega) ?_
    walk_at "gm"
    refine fmt_int (tn r1 (by omega)) ?_
    refine go_jsx (by rw [PySem.Str.length_append, PySem.Str.length_append]; show 0 + _ + 1 + _ ≤ _; omega) ?_
    walk_at "gm"
    refine go_jsx (by rw [PySem.Str.length_append, PySem.Str.length_append, PySem.Str.length_append]; show 0 + _ + 1 + _ + 1 ≤ _; omega) ?_
    walk_at "gm"
    refine fmt_int (tn e1 (by omega)) ?_
    refine go_jsx (by rw [PySem.Str.length_append, PySem.Str.length_append, PySem.Str.length_append, PySem.Str.length_append]; show 0 + _ + 1 + _ + 1 + _ ≤ _; omega) ?_
    walk_at "gm"
    exact k
theorem op_Bucket___str__ {P : Program} {w : World} {base : Heap} (S : HD sys K mg) : Op P w K mg base CX0 1 (ga K "Bucket") "__str__" (spBkStr (ga K "Bucket")) := ⟨_, _, _, (fk_op_Bucket___str__ S), (opf_Bucket___str__ S).1, (opf_Bucket___str__ S).2, b_Bucket___str__ S⟩
/-! ### who is asked: what is returned, in a list, or what an error keeps -/
def Got (K : PySem.W.Frag) (Q : VK) (cls : Value) (d : Option Addr) (H' : Hp) : Prop :=
  (∃ dd v, cls = .ref (ga K "BadBucket") ∧ d = some dd ∧ H' dd = some (.xd [("part", v)]) ∧ ∀ p H'', Same H' H'' → H'' p = some (.tup [.str "bucket", v]) → Q (.ref p) H'') ∨
  (∃ dd v D, cls = .ref (ga K "BadNumber") ∧ d = some dd ∧ H' dd = some (.xd [("value", v)]) ∧ ReprOk H' v D ∧ ∀ p H'', Same H' H'' → H'' p = some (.tup [.str "number", .str D.shown]) → Q (.ref p) H'') ∨
  (∃ dd v, cls = .ref (ga K "BadLengths") ∧ d = some dd ∧ H' dd = some (.xd [("part", v)]) ∧ ∀ p H'', Same H' H'' → H'' p = some (.tup [.str "lengths", v]) → Q (.ref p) H'')
def THeard (K : PySem.W.Frag) : (XK → Hp → VK → Prop) → Hp → VK → Prop := fun tl H Q => ∀ R : VK, (∀ v H', (∀ p H'', Same H' H'' → H'' p = some (.lst [v]) → Q (.ref p) H'') → R v H') → tl (Got K Q) H R
theorem heard_gives {X : Cx} (S : HD sys X.K X.mg) (hgd : X.A.guards = some []) (hr0 : Room 4 X.A) {g : Addr} {cdg : Value} {q : Str} :
    LamX.GivesTo X ["_law_ask", "_law_caught", "error"] "_law_heard" (defScope s__law_heard) g cdg (defBody s__law_heard) "_law_ask" q (THeard X.K) := by
  intro f c' s H Q tl act hc h
  have nd := sc__law_heard.nd
  have hr : Room 3 (X.A.deeper (envOfC "_law_heard" (defScope s__law_heard) s.heap.objs.size g cdg)) := hr0.deeper _
  refine ⟨_, pss_cons (ps_set (i := 1) nd rfl (Or.inl rfl) pe_non)
    (pss_cons (ps_try_keep (i := 2) (c := .ref (ga X.K "CreditError")) (Wout := fun _ _ _ _ => False) (tb := fun W D σ H => ∃ Ech : XK, (∀ cls d σ' H', Ech cls d H' → σ'.length = 3 → W cls d σ' H') ∧ tRet (tLst (tCons (tAskT f c' q (tl Ech)) tNil)) D σ H)
      rfl rfl rfl nd rfl rfl ⟨rfl, by decide, .inl (g_CreditError S)⟩ LamX.takes0 (fun W pn xe tk _ => ⟨fun pins s' σ H' D I h' => ?_⟩) (fun a oe cls d pn _ _ => pss_one (ps_set (i := 1) nd rfl (Or.inl rfl) (pv 2))))
    (pss_cons (ps_if (pt_val (pe_callB call_isX (by rfl) (n_isinstance S) (by decide +kernel) (pa_cons (pv 1) (pa_cons (pe_glob (v := .ref (ga X.K "BadBucket")) rfl (g_BadBucket S) rfl) pa_nil)))) (pss_one (ps_ret (pe_tup (pa_cons pe_str (pa_cons (pe_xk (pv 1)) pa_nil))))) pss_nil)
    (pss_cons (ps_if (pt_val (pe_callB call_isX (by rfl) (n_isinstance S) (by decide +kernel) (pa_cons (pv 1) (pa_cons (pe_glob (v := .ref (ga X.K "BadNumber")) rfl (g_BadNumber S) rfl) pa_nil)))) (pss_one (ps_ret (pe_tup (pa_cons pe_str (pa_cons (pe_callB (call_reprV (smod S) hgd hr.units) (by rfl) (n_repr S) (by decide +kernel) (pa_cons (pe_xk (pv 1)) pa_nil)) pa_nil))))) pss_nil)
    (pss_one (ps_ret (pe_ifExp (pt_val (pe_callB call_isX (by rfl) (n_isinstance S) (by decide +kernel) (pa_cons (pv 1) (pa_cons (pe_glob (v := .ref (ga X.K "BadLengths")) rfl (g_BadLengths S) rfl) pa_nil)))) (pe_tup (pa_cons pe_str (pa_cons (pe_xk (pv 1)) pa_nil))) (pe_tup (pa_cons pe_str pa_nil)))))))), ?_⟩
  · obtain ⟨Ech, hW, h3⟩ := h'
    have hp := fun p1 p2 => act (fun cls d σ H => σ.length = 3 → W cls d σ H) pn xe Ech p1 p2 (takes_len tk) hW
    exact (pss_one (ps_ret (pe_lst (pa_cons (hp _ _) pa_nil)))).run pins s' σ H' D I h3
  · refine go_start (σ' := [_, none, none]) rfl ?_
    walk_at "gm"
    refine ⟨Got X.K Q, ?_, ?_⟩
    · rintro cls d σ' H' got hl
      rcases got with ⟨dd, v, rfl, rfl, hd, k⟩ | ⟨dd, v, D, rfl, rfl, hd, ok, k⟩ | ⟨dd, v, rfl, rfl, hd, k⟩
      · refine ⟨true, exm_BadBucket__CreditError__true S, fun _ a na => ?_, fun z => by cases z⟩
        have s2 : (σ'.set 2 (some (V.ref a)))[2]? = some (some (V.ref a)) := slot_set hl (by decide)
        refine go_asg (go_var s2 ?_)
        refine go_name rfl ?_
        have s1 : (((σ'.set 2 (some (V.ref a))).set 1 (some (V.ref a))).set 2 none)[1]? = some (some (V.ref a)) :=
          slot_past (slot_set (n := 3) (by rw [List.length_set]; exact hl) (by decide)) (by decide)
        have hx : upd H' a (ExK (.ref (ga X.K "BadBucket")) (some dd) a) a = some (ExK (.ref (ga X.K "BadBucket")) (some dd) a) := upd_same
        have hd' : upd H' a (ExK (.ref (ga X.K "BadBucket")) (some dd) a) dd = some (.xd [("part", v)]) := upd_keep na hd
        walk_at "gm"
        refine go_var s1 ?_
        walk_at "gm"
        refine go_isx hx hd' (exb_BadBucket S).2.1 (.own _) (kit_o_BadBucket__o_BadBucket__true S) ?_
        walk_at "gm"
        refine go_xk (go_var s1 ?_)
        refine go_xkx hx (exb_BadBucket S).1 (na_BadBucket_part S) hd' lk_here ?_
        walk_at "gm"
        rename_i p H2 np sp hp
        exact k p H2 ((Same.new na).trans sp) hp
      · refine ⟨true, exm_BadNumber__CreditError__true S, fun _ a na => ?_, fun z => by cases z⟩
        have s2 : (σ'.set 2 (some (V.ref a)))[2]? = some (some (V.ref a)) := slot_set hl (by decide)
        refine go_asg (go_var s2 ?_)
        refine go_name rfl ?_
        have s1 : (((σ'.set 2 (some (V.ref a))).set 1 (some (V.ref a))).set 2 none)[1]? = some (some (V.ref a)) :=
          slot_past (slot_set (n := 3) (by rw [List.length_set]; exact hl) (by decide)) (by decide)
        have hx : upd H' a (ExK (.ref (ga X.K "BadNumber")) (some dd) a) a = some (ExK (.ref (ga X.K "BadNumber")) (some dd) a) := upd_same
        have hd' : upd H' a (ExK (.ref (ga X.K "BadNumber")) (some dd) a) dd = some (.xd [("value", v)]) := upd_keep na hd
        have ok' := ok.same (Same.new (o := ExK (.ref (ga X.K "BadNumber")) (some dd) a) na)
        walk_at "gm"
        refine go_var s1 ?_
        walk_at "gm"
        refine go_isx hx hd' (exb_BadNumber S).2.1 (.own _) (kit_o_BadNumber__o_BadBucket__false S) ?_
        walk_at "gm"
        refine go_var s1 ?_
        walk_at "gm"
        refine go_isx hx hd' (exb_BadNumber S).2.1 (.own _) (kit_o_BadNumber__o_BadNumber__true S) ?_
        walk_at "gm"
        refine go_xk (go_var s1 ?_)
        refine go_xkx hx (exb_BadNumber S).1 (na_BadNumber_value S) hd' lk_here ?_
        walk_at "gm"
        refine go_reprV ok' ?_
        walk_at "gm"
        rename_i p H2 np sp hp
        exact k p H2 ((Same.new na).trans sp) hp
      · refine ⟨true, exm_BadLengths__CreditError__true S, fun _ a na => ?_, fun z => by cases z⟩
        have s2 : (σ'.set 2 (some (V.ref a)))[2]? = some (some (V.ref a)) := slot_set hl (by decide)
        refine go_asg (go_var s2 ?_)
        refine go_name rfl ?_
        have s1 : (((σ'.set 2 (some (V.ref a))).set 1 (some (V.ref a))).set 2 none)[1]? = some (some (V.ref a)) :=
          slot_past (slot_set (n := 3) (by rw [List.length_set]; exact hl) (by decide)) (by decide)
        have hx : upd H' a (ExK (.ref (ga X.K "BadLengths")) (some dd) a) a = some (ExK (.ref (ga X.K "BadLengths")) (some dd) a) := upd_same
        have hd' : upd H' a (ExK (.ref (ga X.K "BadLengths")) (some dd) a) dd = some (.xd [("part", v)]) := upd_keep na hd
        walk_at "gm"
        refine go_var s1 ?_
        walk_at "gm"
        refine go_isx hx hd' (exb_BadLengths S).2.1 (.own _) (kit_o_BadLengths__o_BadBucket__false S) ?_
        walk_at "gm"
        refine go_var s1 ?_
        walk_at "gm"
        refine go_isx hx hd' (exb_BadLengths S).2.1 (.own _) (kit_o_BadLengths__o_BadNumber__false S) ?_
        walk_at "gm"
        refine go_var s1 ?_
        walk_at "gm"
        refine go_isx hx hd' (exb_BadLengths S).2.1 (.own _) (kit_o_BadLengths__o_BadLengths__true S) ?_
        walk_at "gm"
        refine go_xk (go_var s1 ?_)
        refine go_xkx hx (exb_BadLengths S).1 (na_BadLengths_part S) hd' lk_here ?_
        walk_at "gm"
        rename_i p H2 np sp hp
        exact k p H2 ((Same.new na).trans sp) hp
    · walk_at "gm"
      refine ⟨rfl, hc, ?_⟩
      refine h _ fun v H' q => ?_
      show tNil _ _ _
      walk_at "gm"
      rename_i p H2 np sp hp
      exact q p H2 sp hp
section
variable {σ : L2.St} {H : Hp} {Q : VK} {T : List (Addr × Str)} {t : XK → TE}
theorem heard_bk (v : V) (hT : LamX.Tabs T H)
    (h : ∀ H1 (E : XK) (Q' : VK), LamX.ExtN H H1 → Er1 K "BadBucket" "part" v H1 E → t E σ H1 Q') (k : ∀ p H', LamX.ExtN H H' → LamX.Tabs T H' → H' p = some (.tup [.str "bucket", v]) → Q (.ref p) H') : LamX.tLam T (THeard K) t σ H Q := by
  refine go_lam hT fun H1 e1 T1 => ?_
  intro R _
  refine h H1 _ R e1 fun d H2 nd s2 hd => .inl ?_
  exact ⟨d, _, rfl, rfl, hd, fun p H3 s3 hp => k p H3 (e1.trans (LamX.ExtN.of (s2.trans s3))) (tabs_same (tabs_same T1 s2) s3) hp⟩
theorem heard_num (v : V) (D : PyData) (hT : LamX.Tabs T H) (ok : ∀ H', LamX.ExtN H H' → ReprOk H' v D)
    (h : ∀ H1 (E : XK) (Q' : VK), LamX.ExtN H H1 → Er1 K "BadNumber" "value" v H1 E → t E σ H1 Q') (k : ∀ p H', LamX.ExtN H H' → LamX.Tabs T H' → H' p = some (.tup [.str "number", .str D.shown]) → Q (.ref p) H') : LamX.tLam T (THeard K) t σ H Q := by
  refine go_lam hT fun H1 e1 T1 => ?_
  intro R _
  refine h H1 _ R e1 fun d H2 nd s2 hd => .inr (.inl ?_)
  exact ⟨d, _, D, rfl, rfl, hd, ok _ (e1.trans (LamX.ExtN.of s2)), fun p H3 s3 hp => k p H3 (e1.trans (LamX.ExtN.of (s2.trans s3))) (tabs_same (tabs_same T1 s2) s3) hp⟩
theorem heard_len (v : V) (hT : LamX.Tabs T H)
    (h : ∀ H1 (E : XK) (Q' : VK), LamX.ExtN H H1 → Er1 K "BadLengths" "part" v H1 E → t E σ H1 Q') (k : ∀ p H', LamX.ExtN H H' → LamX.Tabs T H' → H' p = some (.tup [.str "lengths", v]) → Q (.ref p) H') : LamX.tLam T (THeard K) t σ H Q := by
  refine go_lam hT fun H1 e1 T1 => ?_
  intro R _
  refine h H1 _ R e1 fun d H2 nd s2 hd => .inr (.inr ?_)
  exact ⟨d, _, rfl, rfl, hd, fun p H3 s3 hp => k p H3 (e1.trans (LamX.ExtN.of (s2.trans s3))) (tabs_same (tabs_same T1 s2) s3) hp⟩
theorem heard_ok (hT : LamX.Tabs T H) (G : V → Hp → Prop)
    (h : ∀ H1 (E : XK) (Q' : VK), LamX.ExtN H H1 → (∀ v H', Same H1 H' → G v H' → Q' v H') → t E σ H1 Q') (k : ∀ v p H1 H', LamX.ExtN H H1 → G v H1 → Same H1 H' → LamX.Tabs T H' → H' p = some (.lst [v]) → Q (.ref p) H') : LamX.tLam T (THeard K) t σ H Q := by
  refine go_lam hT fun H1 e1 T1 => ?_
  intro R hR
  refine h H1 _ R e1 fun v H2 s2 g => ?_
  exact hR v H2 fun p H3 s3 hp => k v p H2 H3 (e1.trans (LamX.ExtN.of s2)) g s3 (tabs_same (tabs_same T1 s2) s3) hp
end
theorem fk_cl__law_pen {P : Program} {w : World} {base : Heap} (S : HD sys K mg) : FnOk P w K mg base CX0 1 (Pl.adr K (Pl.fn "_law_pen")) (fdAt K (Pl.adr K (Pl.fn "_law_pen"))) ["_law_script"] (spPn K) := by
  refine (d__law_pen S).ok sc__law_pen (fun vs H Q E h => ?_) (fun cdv A outer s H vs Q E hr h => ?_)
  · repeat (first | (obtain ⟨rfl, _⟩ := h; rfl) | (obtain ⟨_, h⟩ := h))
  · have nd := sc__law_pen.nd
    refine ⟨_, PSs.nox ((pss_one (ps_ret (pe_lst (pa_cons (pe_callTy call_list_of (by rfl) (n_list S) (by decide +kernel) (pa_cons (pe_slice sl_list (pv 0) po_none (po_some pe_int)) pa_nil)) (pa_cons pe_int (pa_cons pe_int pa_nil))))))), ?_⟩
    try dsimp only [cxOf_K]
    obtain ⟨a, ns, rfl, hS, k⟩ := h
    refine go_start (σ' := [_]) rfl ?_
    walk_at "go"
    intro l nl
    walk_at "go"
    intro c nc
    walk_at "go"
    intro p np
    have e : (cutV (ns.map V.int) none (some 63)) = (ns.take 63).map V.int := (cut_upto (ns.map V.int) 63).trans List.map_take.symm
    rw [e] at nc np ⊢
    refine k _ c _ ⟨ns.take 63, 0, 0, upd_same, upd_keep np upd_same, ?_, Int.le_refl _, Int.le_refl _, ne_of_none upd_same np⟩ ?_ ?_ ?_
    · rw [List.length_take]
      omega
    · exact ((Same.new nl).trans (Same.new nc)).trans (Same.new np)
    · exact ((Same.new nl).trans (Same.new nc)).free np
    · exact (Same.new nl).free nc
theorem cl__law_pen {P : Program} {w : World} {base : Heap} (S : HD sys K mg) : Cl P w K mg base CX0 1 "_law_pen" (spPn K) := ⟨_, _, _, (fk_cl__law_pen S), g__law_pen S, (d__law_pen S).kp, b__law_pen S⟩
theorem fk_cl__law_draw {P : Program} {w : World} {base : Heap} (S : HD sys K mg) : FnOk P w K mg base CX0 1 (Pl.adr K (Pl.fn "_law_draw")) (fdAt K (Pl.adr K (Pl.fn "_law_draw"))) ["_law_pen_here", "_law_many"] (spDr) := by
  refine (d__law_draw S).ok sc__law_draw (fun vs H Q E h => ?_) (fun cdv A outer s H vs Q E hr h => ?_)
  · repeat (first | (obtain ⟨rfl, _⟩ := h; rfl) | (obtain ⟨_, h⟩ := h))
  · have nd := sc__law_draw.nd
    refine ⟨_, PSs.nox ((pss_cons (ps_if (pt_cmpR op_gt (pe_ix ix_list (pv 0) pe_int (fun _ _ => rfl)) pe_int (nomark _)) (pss_cons (ps_set (i := 2) nd rfl (Or.inl rfl) (pe_op op_mod (pe_callTy call_int1 (by rfl) (n_int S) (by decide +kernel) (pa_cons (pe_ix ix_list (pv 0) pe_int (fun _ _ => rfl)) pa_nil)) (pv 1)))
    (pss_cons (ps_asg (pe_op op_fdivW (pe_callTy call_int1 (by rfl) (n_int S) (by decide +kernel) (pa_cons (pe_ix ix_list (pv 0) pe_int (fun _ _ => rfl)) pa_nil)) (pv 1)) (pg_sub (pv 0) pe_int set_list))
    (pss_one (ps_ret (pv 2))))) pss_nil)
    (pss_cons (ps_set (i := 3) nd rfl (Or.inl rfl) (pe_ix ix_list (pv 0) pe_int (fun _ _ => rfl)))
    (pss_cons (ps_asg (pe_op op_add (pv 3) pe_int) (pg_sub (pv 0) pe_int set_list))
    (pss_cons (ps_set (i := 4) nd rfl (Or.inl rfl) (pe_op op_add (pe_op op_mul pe_int (pv 3)) pe_int))
    (pss_cons (ps_if (pt_cmpR (op_neD hr.units) (pe_ix ix_list (pv 0) pe_int (fun _ _ => rfl)) (pe_lst pa_nil) (nomark _)) (pss_one (ps_set (i := 4) nd rfl (Or.inl rfl) (pe_ix ix_list (pe_ix ix_list (pv 0) pe_int (fun _ _ => rfl)) (pe_op op_mod (pe_callTy call_int1 (by rfl) (n_int S) (by decide +kernel) (pa_cons (pv 3) pa_nil)) (pe_callB call_len_seq (by rfl) (n_len S) (by decide +kernel) (pa_cons (pe_ix ix_list (pv 0) pe_int (fun _ _ => rfl)) pa_nil))) (fun _ _ => rfl)))) pss_nil)
    (pss_cons (ps_if (PW.pt (pw_and (pt_cmpR op_lt (pv 3) (pe_callB call_len_seq (by rfl) (n_len S) (by decide +kernel) (pa_cons (pe_ix ix_list (pv 0) pe_int (fun _ _ => rfl)) pa_nil)) (nomark _)) (pw_and1 (pt_cmpR op_ge (pe_callB call_abs (by rfl) (n_abs S) (by decide +kernel) (pa_cons (pv 4) pa_nil)) (pe_op op_pow pe_int pe_int) (nomark _))))) (pss_cons (ps_set (i := 5) nd rfl (Or.inl rfl) (pe_op op_add (pe_op op_mul pe_int (pe_op op_sub (pe_callB call_abs (by rfl) (n_abs S) (by decide +kernel) (pa_cons (pv 4) pa_nil)) (pe_op op_pow pe_int pe_int))) (pe_callTy call_int1 (by rfl) (n_int S) (by decide +kernel) (pa_cons (pe_cmpR op_lt (pv 4) pe_int (nomark _)) pa_nil))))
    (pss_cons (ps_asg (pe_op op_fdivW (pe_callTy call_int1 (by rfl) (n_int S) (by decide +kernel) (pa_cons (pv 5) pa_nil)) (pv 1)) (pg_sub (pv 0) pe_int set_list))
    (pss_one (ps_ret (pe_op op_mod (pe_callTy call_int1 (by rfl) (n_int S) (by decide +kernel) (pa_cons (pv 5) pa_nil)) (pv 1)))))) pss_nil)
    (pss_cons (ps_set (i := 6) nd rfl (Or.inl rfl) (pe_op op_mod (pe_callTy call_int1 (by rfl) (n_int S) (by decide +kernel) (pa_cons (pe_op op_pow (pe_op op_add (pe_op op_add (pe_op op_mod (pe_callTy call_int1 (by rfl) (n_int S) (by decide +kernel) (pa_cons (pv 4) pa_nil)) pe_int) (pe_op op_mul pe_int (pv 3))) pe_int) pe_int) pa_nil)) pe_int))
    (pss_cons (ps_set (i := 6) nd rfl (Or.inl rfl) (pe_op op_mod (pe_callTy call_int1 (by rfl) (n_int S) (by decide +kernel) (pa_cons (pe_op op_pow (pe_op op_add (pe_op op_add (pe_op op_mul (pv 6) (pe_op op_add (pe_op op_mul pe_int (pv 3)) pe_int)) (pe_op op_mul (pe_op op_mul pe_int (pv 3)) (pv 3))) pe_int) pe_int) pa_nil)) pe_int))
    (pss_one (ps_ret (pe_op op_mod (pe_callTy call_int1 (by rfl) (n_int S) (by decide +kernel) (pa_cons (pe_op op_fdiv (pv 6) pe_int) pa_nil)) (pv 1))))))))))))), ?_⟩
    try dsimp only [cxOf_K]
    obtain ⟨p, c, m, n, rfl, hm, hm2, ⟨ns, b, g, hp, hc, hn, b0, b1, cp⟩, hn2, k⟩ := h
    refine go_start (σ' := [_, _, none, none, none, none, none]) rfl ?_
    walk_at "go"
    refine go_dec (fun hg => ?_) (fun hg => ?_)
    · walk_at "go"
      refine k _ _ (Int.emod_nonneg _ (by omega)) (Int.emod_lt_of_pos _ hm) ⟨ns, b, g / m, upd_same, (upd_ne cp).trans hc, hn, b0, by omega, cp⟩ Kp.put
    · walk_at "go"
      intro q nq
      have hp1 : upd (upd H p (.lst [.ref c, .int (b + 1), .int g])) q (.lst []) p = some (.lst [.ref c, .int (b + 1), .int g]) := upd_keep nq upd_same
      have k1 : Kp p H (upd (upd H p (.lst [.ref c, .int (b + 1), .int g])) q (.lst [])) := Kp.put.trans (Kp.new nq)
      have hc1 := k1 _ _ hc cp
      have en : upd (upd H p (.lst [.ref c, .int (b + 1), .int g])) q (.lst []) q = some (.lst (([] : List Int).map V.int)) := upd_same
      refine go_neInts (SqL.of hc1) (SqL.of en) ?_
      generalize upd (upd H p (.lst [.ref c, .int (b + 1), .int g])) q (.lst []) = H1 at hp1 k1 hc1 ⊢
      walk_at "go"
      refine go_ndec (fun hns => ?_) (fun hns => ?_)
      · have hl : 0 < (ns.map V.int).length := by
          rw [List.length_map]
          exact List.length_pos_iff.mpr hns
        walk_at "go"
        obtain ⟨v, e, hv⟩ := atI_mod (xs := ns.map V.int) (Int.emod_nonneg b (by omega)) (Int.emod_lt_of_pos b (by omega))
        obtain ⟨z, hz, rfl⟩ := List.mem_map.mp hv
        refine go_ixl (SqL.of hc1) e ?_
        walk_at "go"
        refine go_dec (fun h1 => ?_) (fun h1 => ?_)
        · walk_at "go"
          refine go_dec (fun h2 => ?_) (fun h2 => ?_)
          · walk_at "go"
            refine k _ _ (Int.emod_nonneg _ (by omega)) (Int.emod_lt_of_pos _ hm) ⟨ns, b + 1, _, upd_same, (upd_ne cp).trans hc1, hn, by omega, by omega, cp⟩ (k1.trans Kp.put)
          · walk_at "go"
            refine go_i ⟨by decide, by decide, mixOk (Int.emod_nonneg _ (by decide)) (Int.lt_of_lt_of_le (Int.emod_lt_of_pos _ (by decide)) (by decide)) b0 (by omega) (by decide) (by decide) (by decide) (by decide) (by decide) (by decide)⟩ ?_
            walk_at "go"
            exact k _ _ (Int.emod_nonneg _ (by omega)) (Int.emod_lt_of_pos _ hm) ⟨ns, b + 1, g, hp1, hc1, hn, by omega, by omega, cp⟩ k1
        · walk_at "go"
          refine go_i ⟨by decide, by decide, mixOk (Int.emod_nonneg _ (by decide)) (Int.lt_of_lt_of_le (Int.emod_lt_of_pos _ (by decide)) (by decide)) b0 (by omega) (by decide) (by decide) (by decide) (by decide) (by decide) (by decide)⟩ ?_
          walk_at "go"
          exact k _ _ (Int.emod_nonneg _ (by omega)) (Int.emod_lt_of_pos _ hm) ⟨ns, b + 1, g, hp1, hc1, hn, by omega, by omega, cp⟩ k1
      · generalize 39119 * b + 823 = z
        walk_at "go"
        refine go_dec (fun h1 => ?_) (fun h1 => ?_)
        · walk_at "go"
          refine go_dec (fun h2 => ?_) (fun h2 => ?_)
          · walk_at "go"
            refine k _ _ (Int.emod_nonneg _ (by omega)) (Int.emod_lt_of_pos _ hm) ⟨ns, b + 1, _, upd_same, (upd_ne cp).trans hc1, hn, by omega, by omega, cp⟩ (k1.trans Kp.put)
          · walk_at "go"
            refine go_i ⟨by decide, by decide, mixOk (Int.emod_nonneg _ (by decide)) (Int.lt_of_lt_of_le (Int.emod_lt_of_pos _ (by decide)) (by decide)) b0 (by omega) (by decide) (by decide) (by decide) (by decide) (by decide) (by decide)⟩ ?_
            walk_at "go"
            exact k _ _ (Int.emod_nonneg _ (by omega)) (Int.emod_lt_of_pos _ hm) ⟨ns, b + 1, g, hp1, hc1, hn, by omega, by omega, cp⟩ k1
        · walk_at "go"
          refine go_i ⟨by decide, by decide, mixOk (Int.emod_nonneg _ (by decide)) (Int.lt_of_lt_of_le (Int.emod_lt_of_pos _ (by decide)) (by decide)) b0 (by omega) (by decide) (by decide) (by decide) (by decide) (by decide) (by decide)⟩ ?_
          walk_at "go"
          exact k _ _ (Int.emod_nonneg _ (by omega)) (Int.emod_lt_of_pos _ hm) ⟨ns, b + 1, g, hp1, hc1, hn, by omega, by omega, cp⟩ k1
theorem cl__law_draw {P : Program} {w : World} {base : Heap} (S : HD sys K mg) : Cl P w K mg base CX0 1 "_law_draw" (spDr) := ⟨_, _, _, (fk_cl__law_draw S), g__law_draw S, (d__law_draw S).kp, b__law_draw S⟩
theorem fk_cl__law_pick {P : Program} {w : World} {base : Heap} (S : HD sys K mg) : FnOk P w K mg base CX0 2 (Pl.adr K (Pl.fn "_law_pick")) (fdAt K (Pl.adr K (Pl.fn "_law_pick"))) ["_law_pen_here", "_law_some"] (spPk K) := by
  refine (d__law_pick S).ok sc__law_pick (fun vs H Q E h => ?_) (fun cdv A outer s H vs Q E hr h => ?_)
  · repeat (first | (obtain ⟨rfl, _⟩ := h; rfl) | (obtain ⟨_, h⟩ := h))
  · have nd := sc__law_pick.nd
    refine ⟨_, PSs.nox ((pss_one (ps_ret (pe_ix ix_seq (pv 1) (pe_f (cl__law_draw S) hr (by decide) pass0 (pa_cons (pv 0) (pa_cons (pe_callB call_len_seq (by rfl) (n_len S) (by decide +kernel) (pa_cons (pv 1) pa_nil)) pa_nil))) (fun _ _ => rfl))))), ?_⟩
    try dsimp only [cxOf_K]
    obtain ⟨p, c, a, xs, n, rfl, ha, hx, hl, ap, hP, hn, k⟩ := h
    refine go_start (σ' := [_, _]) rfl ?_
    walk_at "go"
    have hx' : 0 < xs.length := List.length_pos_iff.mpr hx
    refine ⟨p, c, xs.length, n, rfl, by omega, by omega, hP, hn, fun i H' h0 h1 hP' hk => ?_⟩
    obtain ⟨v, e, hv⟩ := atI_mod h0 h1
    have fin := k v H' hv hP' hk
    rcases ha with ha | ha
    · exact .inl ⟨a, xs, i, v, rfl, rfl, hk.seqL ha ap, e, fin⟩
    · exact .inr (.inl ⟨a, xs, i, v, rfl, rfl, hk.seqT ha ap, e, fin⟩)
theorem cl__law_pick {P : Program} {w : World} {base : Heap} (S : HD sys K mg) : Cl P w K mg base CX0 2 "_law_pick" (spPk K) := ⟨_, _, _, (fk_cl__law_pick S), g__law_pick S, (d__law_pick S).kp, b__law_pick S⟩
/-! ### two Lengths, compared -/
theorem go_lnC (S : HD sys K mg) {sp : Sp} {E : XK} {H : Hp} {Q : VK} {x y : Addr} {ns ms : List Nat} (hx : LnAt (ga K "Lengths") H x ns) (hy : LnAt (ga K "Lengths") H y ms) (k : sp [.ref x, .ref y] H Q E) : rOwnC K (ga K "Lengths") sp E (.ref x) (.ref y) H Q := by
  obtain ⟨dx, tn, tr, tl, M, L⟩ := hx
  obtain ⟨dy, un, ur, ul, N, L2⟩ := hy
  exact go_own L.at_ (tyIns (in_Lengths S) L2.at_) (fr_Lengths_o_Lengths S) k
theorem go_lnNe (S : HD sys K mg) {sp : Sp} {E : XK} {H : Hp} {Q : VK} {x y : Addr} {ns ms : List Nat} (hx : LnAt (ga K "Lengths") H x ns) (hy : LnAt (ga K "Lengths") H y ms) (k : sp [.ref x, .ref y] H (fun v H' => ∃ r, v = .bl r ∧ Q (.bl (!r)) H') E) : rNeC K (ga K "Lengths") sp E (.ref x) (.ref y) H Q := by
  obtain ⟨dx, tn, tr, tl, M, L⟩ := hx
  obtain ⟨dy, un, ur, ul, N, L2⟩ := hy
  exact go_nec L.at_ (tyIns (in_Lengths S) L2.at_) (fr_Lengths_o_Lengths S) k
theorem odd_ln (S : HD sys K mg) {H : Hp} {v : V} {n : String} (h : OddV H v n) : NoLn K H v ∧ PySem.W.notFirst K (ga K "Lengths") (.type n) = true := by
  have ty := h.ty (K := K)
  cases h with
  | int i => exact ⟨⟨_, ty, kit_int__o_Lengths__false S, fr_Lengths_int S⟩, fr_Lengths_int S⟩
  | non => exact ⟨⟨_, ty, kit_NoneType__o_Lengths__false S, fr_Lengths_NoneType S⟩, fr_Lengths_NoneType S⟩
  | bl b => exact ⟨⟨_, ty, kit_bool__o_Lengths__false S, fr_Lengths_bool S⟩, fr_Lengths_bool S⟩
  | str s => exact ⟨⟨_, ty, kit_str__o_Lengths__false S, fr_Lengths_str S⟩, fr_Lengths_str S⟩
  | lst e => exact ⟨⟨_, ty, kit_list__o_Lengths__false S, fr_Lengths_list S⟩, fr_Lengths_list S⟩
  | tup e => exact ⟨⟨_, ty, kit_tuple__o_Lengths__false S, fr_Lengths_tuple S⟩, fr_Lengths_tuple S⟩
  | dK e => exact ⟨⟨_, ty, kit_dict__o_Lengths__false S, fr_Lengths_dict S⟩, fr_Lengths_dict S⟩
/-! ### parts of buckets, drawn -/
/-- an integer, or none of a built-in kind, that is not the pen -/
def PartV (p : Addr) (H : Hp) (v : V) : Prop := (∃ i : Int, v = .int i) ∨ (∃ n, OddV H v n ∧ (∀ i, v ≠ .int i) ∧ v ≠ .ref p)
theorem PartV.ion {p : Addr} {H : Hp} {v : V} (h : PartV p H v) : IntOrNo K H v := by
  rcases h with h | ⟨n, o, ni, _⟩
  · exact .inl h
  · exact .inr ⟨odd_noint o ni, ni⟩
theorem PartV.xt {p : Addr} {H H' : Hp} {v : V} (h : PartV p H v) (x : LamX.ExtN H H') : PartV p H' v := by
  rcases h with h | ⟨n, o, ni, np⟩
  · exact .inl h
  · exact .inr ⟨n, o.ext x, ni, np⟩
theorem PartV.sm {p : Addr} {H H' : Hp} {v : V} (h : PartV p H v) (x : Same H H') : PartV p H' v := h.xt (.of x)
theorem PartV.kp {p : Addr} {H H' : Hp} {v : V} (h : PartV p H v) (k : Kp p H H') : PartV p H' v := by
  rcases h with h | ⟨n, o, ni, np⟩
  · exact .inl h
  · exact .inr ⟨n, CT.odd_kp k o np, ni, np⟩
def spPart (K : PySem.W.Frag) : Sp := fun vs H Q _ => ∃ (p c : Addr) (n : Nat) (m : Int), vs = [.ref p, .int m] ∧ Pn H p c n ∧ n < 600000 ∧ 1 ≤ m ∧ m ≤ 1000000 ∧ ∀ v H', PartV p H' v → Pn H' p c (n + 4) → Kp p H H' → Q v H'
theorem fk_cl__law_part {P : Program} {w : World} {base : Heap} (S : HD sys K mg) : FnOk P w K mg base CX0 3 (Pl.adr K (Pl.fn "_law_part")) (fdAt K (Pl.adr K (Pl.fn "_law_part"))) ["_law_pen_here", "_law_most"] (spPart K) := by
  refine (d__law_part S).ok sc__law_part (fun vs H Q E h => ?_) (fun cdv A outer s H vs Q E hr h => ?_)
  · repeat (first | (obtain ⟨rfl, _⟩ := h; rfl) | (obtain ⟨_, h⟩ := h))
  · have nd := sc__law_part.nd
    refine ⟨_, PSs.nox ((pss_cons (ps_set (i := 2) nd rfl (Or.inl rfl) (pe_lst (pa_cons pe_int (pa_cons pe_int (pa_cons pe_int (pa_cons (pv 1) (pa_cons (pe_op op_sub (pv 1) pe_int) (pa_cons (pe_op op_add pe_int (pe_f (cl__law_draw S) hr (by decide) pass0 (pa_cons (pv 0) (pa_cons (pv 1) pa_nil)))) (pa_cons (pe_op op_add pe_int (pe_f (cl__law_draw S) hr (by decide) pass0 (pa_cons (pv 0) (pa_cons pe_int pa_nil)))) (pa_cons (pe_op op_add pe_int (pe_f (cl__law_draw S) hr (by decide) pass0 (pa_cons (pv 0) (pa_cons pe_int pa_nil)))) pa_nil))))))))))
    (pss_one (ps_ret (pe_f (cl__law_pick S) hr (by decide) pass0 (pa_cons (pv 0) (pa_cons (pe_op op_cat (pe_op op_rep (pv 2) pe_int) (pe_lst (pa_cons pe_int (pa_cons (pe_un un_neg pe_int) (pa_cons (pe_op op_add (pv 1) pe_int) (pa_cons pe_non (pa_cons pe_bl (pa_cons pe_str (pa_cons (pe_tup (pa_cons pe_int pa_nil)) (pa_cons (pe_lst (pa_cons pe_int pa_nil)) (pa_cons (pe_op op_pow pe_int pe_int) pa_nil))))))))))) pa_nil))))))), ?_⟩
    try dsimp only [cxOf_K]
    obtain ⟨p, c, n, m, rfl, hP, hn, m0, m1, k⟩ := h
    refine go_start (σ' := [_, _, none]) rfl ?_
    walk_at "gm"
    rename_i tt T1 nt st ht ll L1 nl sl hl l9 M1 n9 s9 h9 cl C1 nc sc hc v Hv hv Pv kv
    refine k v Hv ?_ Pv (by walk_at "kp")
    have htt : Hv tt = some (.tup [.int 1]) := by walk_at "hp"
    have hll : Hv ll = some (.lst [.int 1]) := by walk_at "hp"
    have tp : tt ≠ p := by walk_at "ne"
    have lp : ll ≠ p := by walk_at "ne"
    clear hc h9
    simp only [List.mem_append, List.mem_cons, List.not_mem_nil, or_false, or_assoc, false_or] at hv
    repeat' (obtain rfl | hv := hv)
    all_goals first
      | exact .inl ⟨_, rfl⟩
      | exact .inr ⟨_, .non, (by intro i z; cases z), by intro z; cases z⟩
      | exact .inr ⟨_, .bl _, (by intro i z; cases z), by intro z; cases z⟩
      | exact .inr ⟨_, .str _, (by intro i z; cases z), by intro z; cases z⟩
      | exact .inr ⟨_, .tup htt, (by intro i z; cases z), fun z => tp (V.ref.inj z)⟩
      | exact .inr ⟨_, .lst hll, (by intro i z; cases z), fun z => lp (V.ref.inj z)⟩
theorem cl__law_part {P : Program} {w : World} {base : Heap} (S : HD sys K mg) : Cl P w K mg base CX0 3 "_law_part" (spPart K) := ⟨_, _, _, (fk_cl__law_part S), g__law_part S, (d__law_part S).kp, b__law_part S⟩
def spIsPart (K : PySem.W.Frag) : Sp := fun vs H Q _ => ∃ (v : V) (m : Int), vs = [v, .int m] ∧ IntOrNo K H v ∧ Q (.bl (partB m v)) H
theorem fk_cl__law_is_part {P : Program} {w : World} {base : Heap} (S : HD sys K mg) : FnOk P w K mg base CX0 1 (Pl.adr K (Pl.fn "_law_is_part")) (fdAt K (Pl.adr K (Pl.fn "_law_is_part"))) ["_law_value", "_law_most"] (spIsPart K) := by
  refine (d__law_is_part S).ok sc__law_is_part (fun vs H Q E h => ?_) (fun cdv A outer s H vs Q E hr h => ?_)
  · repeat (first | (obtain ⟨rfl, _⟩ := h; rfl) | (obtain ⟨_, h⟩ := h))
  · have nd := sc__law_is_part.nd
    refine ⟨_, PSs.nox ((pss_one (ps_ret (pe_and (pe_callB call_isi (by rfl) (n_isinstance S) (by decide +kernel) (pa_cons (pv 0) (pa_cons (pe_bltn (v := .ty "int") (by rfl) (n_int S) (by decide +kernel) rfl) pa_nil))) (pe_and (pe_not (pe_callB call_isi (by rfl) (n_isinstance S) (by decide +kernel) (pa_cons (pv 0) (pa_cons (pe_bltn (v := .ty "bool") (by rfl) (n_bool S) (by decide +kernel) rfl) pa_nil)))) (pe_one (pe_chain op_le op_le pe_int (pv 0) (pv 1)))))))), ?_⟩
    try dsimp only [cxOf_K]
    obtain ⟨v, m, rfl, ⟨i, rfl⟩ | ⟨⟨t, bi, bb, ty, k1, k2, k3⟩, ni⟩, k⟩ := h
    · refine go_start (σ' := [_, _]) rfl ?_
      walk_at "gm"
      refine go_isi (b := true) (.ty "int") (.base (.int i)) (kit_ty (by decide +kernel)) ?_
      walk_at "gm"
      refine go_isi (b := false) (.ty "bool") (.base (.int i)) (kit_ty (by decide +kernel)) ?_
      walk_at "gm"
      have e : partB m (.int i) = (decide (1 ≤ i) && decide (i ≤ m)) := rfl
      rw [e] at k
      refine go_dec (fun z => ?_) (fun z => ?_)
      · walk_at "gm"
        rw [decide_eq_true z, Bool.true_and] at k
        exact k
      · walk_at "gm"
        rw [decide_eq_false z, Bool.false_and] at k
        exact k
    · have e : partB m v = false := by
        cases v with
        | int i => exact absurd rfl (ni i)
        | _ => rfl
      rw [e] at k
      refine go_start (σ' := [_, _]) rfl ?_
      walk_at "gm"
      refine go_isi (.ty "int") ty k1 ?_
      cases bi with
      | false =>
        walk_at "gm"
        exact k
      | true =>
        have : bb = true := by simpa using k3
        subst this
        walk_at "gm"
        refine go_isi (.ty "bool") ty k2 ?_
        walk_at "gm"
        exact k
theorem cl__law_is_part {P : Program} {w : World} {base : Heap} (S : HD sys K mg) : Cl P w K mg base CX0 1 "_law_is_part" (spIsPart K) := ⟨_, _, _, (fk_cl__law_is_part S), g__law_is_part S, (d__law_is_part S).kp, b__law_is_part S⟩
/-! ### the first wrong part -/
def dueV : Option Str → V
  | none => .non
  | some w => .str w
def dueFrom (v1 v2 v3 : V) : Nat → Option Str
  | 0 => badPart v1 v2 v3
  | 1 => if partB 1000 v2 = false then some "rate" else if partB 1000 v3 = false then some "every" else none
  | 2 => if partB 1000 v3 = false then some "every" else none
  | _ => none
def spDueP (K : PySem.W.Frag) : Sp := fun vs H Q _ => ∃ (l : Addr) (v1 v2 v3 : V), vs = [.ref l] ∧ H l = some (.lst [v1, v2, v3]) ∧ (∀ H', Same H H' → IntOrNo K H' v1 ∧ IntOrNo K H' v2 ∧ IntOrNo K H' v3) ∧ ∀ H', Same H H' → Q (dueV (badPart v1 v2 v3)) H'
theorem fk_cl__law_due {P : Program} {w : World} {base : Heap} (S : HD sys K mg) : FnOk P w K mg base CX0 2 (Pl.adr K (Pl.fn "_law_due")) (fdAt K (Pl.adr K (Pl.fn "_law_due"))) ["_law_parts"] (spDueP K) := by
  refine (d__law_due S).ok sc__law_due (fun vs H Q E h => ?_) (fun cdv A outer s H vs Q E hr h => ?_)
  · repeat (first | (obtain ⟨rfl, _⟩ := h; rfl) | (obtain ⟨_, h⟩ := h))
  · have nd := sc__law_due.nd
    refine ⟨_, PSs.nox ((pss_cons (ps_for PassesOwn.never rfl (pi_list (pe_lst (pa_cons (pe_tup (pa_cons (pe_ix ix_list (pv 0) pe_int (fun _ _ => rfl)) (pa_cons (pe_op op_pow pe_int pe_int) (pa_cons pe_str pa_nil)))) (pa_cons (pe_tup (pa_cons (pe_ix ix_list (pv 0) pe_int (fun _ _ => rfl)) (pa_cons pe_int (pa_cons pe_str pa_nil)))) (pa_cons (pe_tup (pa_cons (pe_ix ix_list (pv 0) pe_int (fun _ _ => rfl)) (pa_cons pe_int (pa_cons pe_str pa_nil)))) pa_nil))))) (pg_tup (by rfl) (pgs_cons (pg_name (i := 1) nd rfl (Or.inl rfl)) (pgs_cons (pg_name (i := 2) nd rfl (Or.inl rfl)) (pgs_cons (pg_name (i := 3) nd rfl (Or.inl rfl)) pgs_nil))))
      (pss_one (ps_if (pt_not (pt_val (pe_f (cl__law_is_part S) hr (by decide) pass0 (pa_cons (pv 1) (pa_cons (pv 2) pa_nil))))) (pss_one (ps_ret (pv 3))) pss_nil)))
    (pss_one (ps_ret pe_non)))), ?_⟩
    try dsimp only [cxOf_K]
    obtain ⟨l, v1, v2, v3, rfl, hl, hi, k⟩ := h
    refine go_start (σ' := [_, none, none, none]) rfl ?_
    walk_at "gm"
    rename_i t0 H0 n0 s0 h0 t1 H1 n1 s1 h1 t2 H2 n2 s2 h2 ls H3 n3 s3 h3
    refine forList (xs := [.ref t0, .ref t1, .ref t2]) (fun i σ' H' => Same H3 H' ∧ dueFrom v1 v2 v3 i = badPart v1 v2 v3 ∧ ∃ u1 u2 u3, σ' = [some (.ref l), u1, u2, u3]) ⟨Same.refl _, rfl, none, none, none, rfl⟩ (fun _ _ _ _ ⟨s, _⟩ => .of (s _ _ h3)) ?_ ?_
    · rintro i x σ' H' hx ⟨sj, eq, u1, u2, u3, rfl⟩
      have S' : Same H H' := s0.trans (s1.trans (s2.trans (s3.trans sj)))
      obtain ⟨i1, i2, i3⟩ := hi H' S'
      obtain ⟨t, vv, mm, ww, rfl, ht, io, e⟩ : ∃ t vv mm ww, x = .ref t ∧ H' t = some (.tup [vv, .int mm, .str ww]) ∧ IntOrNo K H' vv ∧ dueFrom v1 v2 v3 i = (if partB mm vv = false then some ww else dueFrom v1 v2 v3 (i + 1)) := by
        have h3' : i < 3 := (List.getElem?_eq_some_iff.mp hx).1
        rcases (show i = 0 ∨ i = 1 ∨ i = 2 by omega) with rfl | rfl | rfl
        · cases hx
          exact ⟨t0, v1, 1000000, "burst", rfl, sj _ _ (s3 _ _ (s2 _ _ (s1 _ _ h0))), i1, rfl⟩
        · cases hx
          exact ⟨t1, v2, 1000, "rate", rfl, sj _ _ (s3 _ _ (s2 _ _ h1)), i2, rfl⟩
        · cases hx
          exact ⟨t2, v3, 1000, "every", rfl, sj _ _ (s3 _ _ h2), i3, rfl⟩
      walk_at "gm"
      refine ⟨vv, mm, rfl, io, ?_⟩
      cases q : partB mm vv with
      | false =>
        walk_at "gm"
        have := k H' S'
        rw [← eq, e, if_pos q] at this
        exact this
      | true =>
        walk_at "gm"
        refine ⟨sj, ?_, _, _, _, rfl⟩
        rw [← eq, e, if_neg (by rw [q]; decide)]
    · rintro σ' H' ⟨sj, eq, u1, u2, u3, rfl⟩
      walk_at "gm"
      have := k H' (s0.trans (s1.trans (s2.trans (s3.trans sj))))
      rw [← eq] at this
      exact this
theorem cl__law_due {P : Program} {w : World} {base : Heap} (S : HD sys K mg) : Cl P w K mg base CX0 2 "_law_due" (spDueP K) := ⟨_, _, _, (fk_cl__law_due S), g__law_due S, (d__law_due S).kp, b__law_due S⟩
/-! ### texts of lists of integers -/
theorem ints_show : ∀ {is : List Int}, (∀ i ∈ is, i.natAbs.log2 < 1920) → PyData.showableAll (is.map PyData.int) = true ∧ PyData.depthAll (is.map PyData.int) ≤ 3 ∧ ((PyData.shownAll (is.map PyData.int)).map (·.length)).sum ≤ 1921 * is.length ∧ (PyData.shownAll (is.map PyData.int)).length = is.length
  | [], _ => ⟨rfl, Nat.zero_le _, Nat.zero_le _, rfl⟩
  | i :: is, h => by
    have hi := h i List.mem_cons_self
    have l : (PyData.int i).shown.length ≤ 1921 := PyProof.Rows.int_text_len_1921 hi
    have s : (PyData.int i).showable = true := by simpa [PyData.showable] using hi
    obtain ⟨b1, b2, b3, b4⟩ := ints_show fun e he => h e (List.mem_cons_of_mem _ he)
    refine ⟨?_, ?_, ?_, ?_⟩
    · simp only [List.map_cons, PyData.showableAll, s, Bool.true_and]
      exact b1
    · simp only [List.map_cons, PyData.depthAll]
      exact Nat.max_le.mpr ⟨Nat.zero_le _, b2⟩
    · simp only [List.map_cons, PyData.shownAll, List.sum_cons, List.length_cons]
      exact Nat.le_trans (Nat.add_le_add l b3) (by omega)
    · simp only [List.map_cons, PyData.shownAll, List.length_cons]
      exact congrArg (· + 1) b4
theorem fl_ints : ∀ is : List Int, Paired Fl (is.map V.int) (is.map PyData.int)
  | [] => .nil
  | _ :: is => .cons (.int _) (fl_ints is)
theorem repr_ints {H : Hp} {a : Addr} (is : List Int) (e : H a = some (.lst (is.map V.int))) (h : ∀ i ∈ is, i.natAbs.log2 < 1920) (l : is.length ≤ 40) : ReprOk H (.ref a) (.list (is.map PyData.int)) := by
  obtain ⟨b1, b2, b3, b4⟩ := ints_show h
  refine ⟨.lst e (fl_ints is), ?_, ?_, ?_⟩
  · simp only [PyData.showable]
    exact b1
  · simp only [PyData.depth]
    omega
  · have z := listText_len_le (PyData.shownAll (is.map PyData.int))
    simp only [PyData.shown]
    omega
theorem log_70 {i : Int} (h1 : 0 ≤ i) (h2 : i < 10000000000000000000000000000000000000000000000000000000000000000000000) : i.natAbs.log2 < 1920 := by
  have : i.natAbs < 10000000000000000000000000000000000000000000000000000000000000000000000 := by omega
  by_cases z : i.natAbs = 0
  · rw [z]
    decide
  · exact Nat.lt_of_lt_of_le ((Nat.log2_lt z).mpr (Nat.lt_trans this (show 10000000000000000000000000000000000000000000000000000000000000000000000 < 2 ^ 240 by decide +kernel))) (by decide)
theorem bnd_bound {b r e t : Int} (bv : Bv b r e) (t0 : 0 ≤ t) (t1 : t ≤ 1000000000000000000000000000000000000000000000000000000000000) : 0 ≤ Bk.bnd b r e t ∧ Bk.bnd b r e t < 10000000000000000000000000000000000000000000000000000000000000000000000 := by
  obtain ⟨b1, b2, r1, r2, e1, e2⟩ := bv
  have q0 : 0 ≤ t / e := Int.ediv_nonneg t0 (by omega)
  have q1 : t / e ≤ t := Int.ediv_le_self _ t0
  have m0 : 0 ≤ r * (t / e) := Int.mul_nonneg (by omega) q0
  have m1 : r * (t / e) ≤ 1000 * 1000000000000000000000000000000000000000000000000000000000000 := Int.mul_le_mul r2 (Int.le_trans q1 t1) q0 (by omega)
  unfold Bk.bnd
  omega
def spNumR (K : PySem.W.Frag) : Sp := fun vs H Q _ => ∃ (p c a l : Addr) (n : Nat) (b r e : Int), vs = [.ref p, .ref a, .ref l] ∧ Pn H p c n ∧ n < 600000 ∧ l ≠ p ∧ H l = some (.lst [.int b, .int r, .int e]) ∧ BkAt (ga K "Bucket") H a b r e ∧ Bv b r e ∧
  ∀ H', Pn H' p c (n + 6) → Kp p H H' → Q (.bl true) H'
theorem fk_clg__law_numbers_right {P : Program} {w : World} {base : Heap} (S : HD sys K mg) : FnOkG P w K mg base CX0 6 (Pl.adr K (Pl.fn "_law_numbers_right")) (fdAt K (Pl.adr K (Pl.fn "_law_numbers_right"))) ["_law_pen_here", "_law_made", "_law_parts"] (spNumR K) := by
  refine (d__law_numbers_right S).okGD sc__law_numbers_right (fun vs H Q E h => ?_) (fun A outer s H vs Q E hgd hr h => ?_)
  · repeat (first | (obtain ⟨rfl, _⟩ := h; rfl) | (obtain ⟨_, h⟩ := h))
  · have nd := sc__law_numbers_right.nd
    refine ⟨_, PSs.nox ((pss_cons (ps_asg (pv 2) (pg_lst (by rfl) (pgs_cons (pg_name (i := 3) nd rfl (Or.inl rfl)) (pgs_cons (pg_name (i := 4) nd rfl (Or.inl rfl)) (pgs_cons (pg_name (i := 5) nd rfl (Or.inl rfl)) pgs_nil)))))
    (pss_cons (ps_set (i := 6) nd rfl (Or.inl rfl) (pe_f (cl__law_pick S) hr (by decide) pass0 (pa_cons (pv 0) (pa_cons (pe_lst (pa_cons pe_int (pa_cons pe_int (pa_cons (pv 5) (pa_cons (pe_op op_sub (pv 5) pe_int) (pa_cons (pe_op op_mul pe_int (pv 5)) (pa_cons (pe_f (cl__law_draw S) hr (by decide) pass0 (pa_cons (pv 0) (pa_cons pe_int pa_nil))) (pa_cons (pe_op op_pow pe_int pe_int) pa_nil)))))))) pa_nil))))
    (pss_cons (ps_set (i := 7) nd rfl (Or.inl rfl) (pe_f (cl__law_pick S) hr (by decide) pass0 (pa_cons (pv 0) (pa_cons (pe_lst (pa_cons pe_int (pa_cons (pv 3) (pa_cons (pe_op op_add (pv 3) pe_int) (pa_cons (pe_op op_add (pv 3) (pv 4)) (pa_cons (pe_f (cl__law_draw S) hr (by decide) pass0 (pa_cons (pv 0) (pa_cons (pe_op op_pow pe_int pe_int) pa_nil))) (pa_cons (pe_op op_sub (pe_op op_pow pe_int pe_int) pe_int) pa_nil))))))) pa_nil))))
    (pss_cons (ps_if (pt_cmpR op_ne (pe_callB (call_reprV (smod S) hgd hr.units) (by rfl) (n_repr S) (by decide +kernel) (pa_cons (pe_lst (pa_cons (pe_callO (pv 1) (ca_Bucket S) hr (by decide) pass_none (pa_cons (pv 6) pa_nil)) (pa_cons (pe_callOK (pv 1) (cak_Bucket_ticks S) hr (by decide) pass_none (pk_cons (pv 6) pk_nil)) pa_nil))) pa_nil)) (pe_callB (call_reprV (smod S) hgd hr.units) (by rfl) (n_repr S) (by decide +kernel) (pa_cons (pe_op op_rep (pe_lst (pa_cons (pe_op op_add (pv 3) (pe_op op_mul (pv 4) (pe_op op_fdiv (pe_callTy call_int1 (by rfl) (n_int S) (by decide +kernel) (pa_cons (pv 6) pa_nil)) (pv 5)))) pa_nil)) pe_int) pa_nil)) (nomark _)) (pss_one (ps_ret pe_bl)) pss_nil)
    (pss_cons (ps_set (i := 8) nd rfl (Or.inl rfl) (pe_me (me_Bucket_earliest S) hr (by decide) pass_none (pv 1) (pa_cons (pv 7) pa_nil)))
    (pss_cons (ps_if (PW.pt (pw_or (pt_cmpR op_ne (pe_mek (mek_Bucket_earliest_bits S) hr (by decide) pass_none (pv 1) (pk_cons (pv 7) pk_nil)) (pv 8) (nomark _)) (pw_or1 (pt_cmpR op_lt (pe_op op_add (pv 3) (pe_op op_mul (pv 4) (pe_op op_fdiv (pe_callTy call_int1 (by rfl) (n_int S) (by decide +kernel) (pa_cons (pv 8) pa_nil)) (pv 5)))) (pv 7) (nomark _))))) (pss_one (ps_ret pe_bl)) pss_nil)
    (pss_cons (ps_if (PW.pt (pw_and (pt_cmpR op_gt (pv 8) pe_int (nomark _)) (pw_and1 (pt_cmpR op_ge (pe_op op_add (pv 3) (pe_op op_mul (pv 4) (pe_op op_fdiv (pe_callTy call_int1 (by rfl) (n_int S) (by decide +kernel) (pa_cons (pe_op op_sub (pv 8) pe_int) pa_nil)) (pv 5)))) (pv 7) (nomark _))))) (pss_one (ps_ret pe_bl)) pss_nil)
    (pss_one (ps_ret (pe_and (pe_callB call_isi (by rfl) (n_isinstance S) (by decide +kernel) (pa_cons (pv 8) (pa_cons (pe_bltn (v := .ty "int") (by rfl) (n_int S) (by decide +kernel) rfl) pa_nil))) (pe_and (pe_cmpR op_ge (pv 8) pe_int (nomark _)) (pe_one (pe_cmpR (op_own (op_Ratio___eq__ S) (fun _ _ => rfl) hr (by decide) pass0) (pe_prp (pr_Bucket_rate_of S) hr (by decide) pass0 (pv 1)) (pe_mke (mke_Ratio S) hr (by decide) pass0 (pa_cons (pv 4) (pa_cons (pv 5) pa_nil))) (nomark _))))))))))))))), ?_⟩
    try dsimp only [cxOf_K]
    obtain ⟨p, c, a, l, n, b, r, e, rfl, hP, hn, lp, hl, ⟨dx, ha⟩, bv, k⟩ := h
    obtain ⟨b1, b2, r1, r2, e1, e2⟩ := id bv
    refine go_start (σ' := [_, _, _, none, none, none, none, none, none]) rfl ?_
    walk_at "gm"
    rename_i d1 D1 d10 d11 Pd1 kd1 lA HA nA sA hA far HB hfar PB kB d2 D2 d20 d21 Pd2 kd2 lC HC nC sC hC bits HD hbits PD kD
    obtain ⟨f, rfl, f0, f1⟩ : ∃ f : Int, far = .int f ∧ 0 ≤ f ∧ f ≤ 1000000000000000000000000000000000000000000000000000000000000 := by
      simp only [List.mem_cons, List.not_mem_nil, or_false] at hfar
      rcases hfar with rfl | rfl | rfl | rfl | rfl | rfl | rfl <;> exact ⟨_, rfl, by omega, by omega⟩
    obtain ⟨w, rfl, w0, w1⟩ : ∃ w : Int, bits = .int w ∧ 0 ≤ w ∧ w ≤ 1000000000000000000000000000000000000000000000000000000000000 := by
      simp only [List.mem_cons, List.not_mem_nil, or_false] at hbits
      rcases hbits with rfl | rfl | rfl | rfl | rfl | rfl <;> exact ⟨_, rfl, by omega, by omega⟩
    have ha' : HD a = some (.ins (ga K "Bucket") dx (bkF b r e)) := by walk_at "hp"
    clear hA hC hfar hbits
    obtain ⟨g0, g1⟩ := bnd_bound bv f0 f1
    refine go_callO ?_
    walk_at "gm"
    refine callO_x ?_
    walk_at "gm"
    refine ⟨dx, _, ha', ⟨a, _, b, r, e, rfl, ⟨dx, ha'⟩, bv, .inl ⟨f, rfl, f0, ?_⟩⟩⟩
    walk_at "gm"
    refine go_callOK ?_
    walk_at "gm"
    refine callOK_x ?_
    walk_at "gm"
    refine ⟨rfl, dx, _, ha', ?_⟩
    refine ⟨a, .int f, b, r, e, rfl, ⟨dx, ha'⟩, bv, .inl ⟨f, rfl, f0, ?_⟩⟩
    walk_at "gm"
    rename_i l1 G1 n1 s1 h1
    have both : ∀ i ∈ [Bk.bnd b r e f, Bk.bnd b r e f], i.natAbs.log2 < 1920 := fun i hi => by
      have : i = Bk.bnd b r e f := by simpa using hi
      rw [this]
      exact log_70 g0 g1
    refine go_reprV (repr_ints [Bk.bnd b r e f, Bk.bnd b r e f] h1 both (by simp)) ?_
    walk_at "gm"
    rename_i l2 G2 n2 s2 h2 l3 G3 n3 s3 h3
    refine go_reprV (repr_ints [Bk.bnd b r e f, Bk.bnd b r e f] h3 both (by simp)) ?_
    walk_at "gm"
    refine go_ndec (fun q => absurd rfl q) (fun _ => ?_)
    have ha3 : G3 a = some (.ins (ga K "Bucket") dx (bkF b r e)) := by walk_at "hp"
    have t0 : 0 ≤ Bk.early b r e w := by
      unfold Bk.early
      exact Int.mul_nonneg (by omega) (by split <;> omega)
    walk_at "gm"
    refine ⟨a, .int w, b, r, e, rfl, ⟨dx, ha3⟩, bv, .inl ⟨w, rfl, w0, ?_⟩⟩
    walk_at "gm"
    refine ⟨rfl, ?_⟩
    refine ⟨a, .int w, b, r, e, rfl, ⟨dx, ha3⟩, bv, .inl ⟨w, rfl, w0, ?_⟩⟩
    walk_at "gm"
    refine go_ndec (fun q => absurd rfl q) (fun _ => ?_)
    walk_at "gm"
    have lets : w ≤ Bk.bnd b r e (Bk.early b r e w) := Bk.early_lets (by omega) (by omega)
    refine go_dec (fun z => absurd lets (by unfold Bk.bnd; omega)) (fun _ => ?_)
    walk_at "gm"
    refine go_dec (fun z => ?_) (fun z => ?_)
    · walk_at "gm"
      refine go_dec (fun y => ?_) (fun _ => ?_)
      · have y' : w ≤ Bk.bnd b r e (Bk.early b r e w - 1) := y
        have := Bk.early_least (by omega) (by omega) (by omega) y'
        omega
      walk_at "gm"
      refine go_isi (b := true) (.ty "int") (.base (.int _)) (kit_ty (by decide +kernel)) ?_
      walk_at "gm"
      refine go_dec (fun _ => ?_) (fun q => absurd t0 q)
      walk_at "gm"
      refine ⟨a, b, r, e, rfl, ⟨dx, ha3⟩, bv, fun x G4 nx s4 hx => ?_⟩
      walk_at "gm"
      refine rt_make (by omega) ⟨by omega, by omega⟩ ⟨by omega, by omega⟩ fun y G5 ny s5 hy => ?_
      obtain ⟨dz, hz⟩ := id hx
      obtain ⟨dw, hw⟩ := id hy
      refine go_own (s5 _ _ hz) (tyIns (in_Ratio S) hw) (fr_Ratio_o_Ratio S) ?_
      refine ⟨x, .ref y, _, _, _, _, rfl, ⟨dz, s5 _ _ hz⟩, .inl ⟨y, rfl, ⟨dw, hw⟩⟩, ?_⟩
      rw [decide_eq_true ⟨rfl, rfl⟩]
      exact k G5 (Pn.mono (by walk_at "pen") (by omega)) (by walk_at "kp")
    · walk_at "gm"
      refine go_isi (b := true) (.ty "int") (.base (.int _)) (kit_ty (by decide +kernel)) ?_
      walk_at "gm"
      refine go_dec (fun _ => ?_) (fun q => absurd t0 q)
      walk_at "gm"
      refine ⟨a, b, r, e, rfl, ⟨dx, ha3⟩, bv, fun x G4 nx s4 hx => ?_⟩
      walk_at "gm"
      refine rt_make (by omega) ⟨by omega, by omega⟩ ⟨by omega, by omega⟩ fun y G5 ny s5 hy => ?_
      obtain ⟨dz, hz⟩ := id hx
      obtain ⟨dw, hw⟩ := id hy
      refine go_own (s5 _ _ hz) (tyIns (in_Ratio S) hw) (fr_Ratio_o_Ratio S) ?_
      refine ⟨x, .ref y, _, _, _, _, rfl, ⟨dz, s5 _ _ hz⟩, .inl ⟨y, rfl, ⟨dw, hw⟩⟩, ?_⟩
      rw [decide_eq_true ⟨rfl, rfl⟩]
      exact k G5 (Pn.mono (by walk_at "pen") (by omega)) (by walk_at "kp")
theorem clg__law_numbers_right {P : Program} {w : World} {base : Heap} (S : HD sys K mg) : ClG P w K mg base CX0 6 "_law_numbers_right" (spNumR K) := ⟨_, _, _, (fk_clg__law_numbers_right S), g__law_numbers_right S, (d__law_numbers_right S).kp, b__law_numbers_right S⟩
/-! ### others -/
theorem okB {ns : List Nat} (h : (decide (ns ≠ []) && (ns.all (fun n => decide (1 ≤ n ∧ n ≤ 60)) && decide (ns.Pairwise (· < ·)))) = true) : NsOk ns := by
  simp only [Bool.and_eq_true, decide_eq_true_eq, List.all_eq_true] at h
  exact ⟨h.1, h.2.2, fun n hn => h.2.1 n hn⟩
theorem ok_one {d : Int} (d0 : 0 ≤ d) (d1 : d < 60) : NsOk [(1 + d).toNat] := ⟨by simp, List.pairwise_singleton _ _, fun n hn => by
  rw [List.mem_singleton.mp hn]
  omega⟩
theorem last_at {ns : List Nat} (ne : ns ≠ []) : ns[ns.length - 1]? = some ns.getLast! := by
  obtain ⟨m, r, rfl⟩ := List.exists_cons_of_ne_nil ne
  rw [List.getLast!_eq_getElem!]
  simp
theorem natV_last {ns : List Nat} (ne : ns ≠ []) : atI (natV ns) (-1) = some (.int (ns.getLast! : Nat)) := by
  have z := last_at ne
  have l : 0 < ns.length := List.length_pos_iff.mpr ne
  show (ixN (ns.map fun n => V.int (n : Nat)).length (-1)).bind _ = _
  rw [List.length_map, show ixN ns.length (-1) = some (ns.length - 1) by unfold ixN; rw [if_neg (by decide), if_pos (by omega)]; congr 1; omega]
  show (ns.map fun n => V.int (n : Nat))[ns.length - 1]? = _
  rw [List.getElem?_map, z]
  rfl
theorem NsOk.all {ns : List Nat} (h : NsOk ns) : intsV ns ≠ [] ∧ (∀ i ∈ intsV ns, 1 ≤ i ∧ i ≤ 60) ∧ (intsV ns).length ≤ 1000 := by
  refine ⟨fun q => h.ne (List.map_eq_nil_iff.mp q), fun i hi => ?_, ?_⟩
  · obtain ⟨n, hn, rfl⟩ := List.mem_map.mp hi
    have := h.lo n hn
    omega
  · rw [List.length_map]
    have := h.len'
    omega
theorem rp_bl {H : Hp} {b : Bool} : ReprOk H (.bl b) (.bool b) := ⟨.flat (.bl b), rfl, Nat.zero_le _, by cases b <;> decide +kernel⟩
theorem rp_lit {H : Hp} {v : V} {d : PyData} (q : Dq H v d) (c : (d.showable && (decide (d.depth ≤ 60) && (decide (d.shown.length ≤ 100000) && PyData.strOk d.shown))) = true) : ReprOk H v d ∧ PyData.strOk d.shown = true := by
  simp only [Bool.and_eq_true, decide_eq_true_eq] at c
  exact ⟨⟨q, c.1, c.2.1, c.2.2.1⟩, c.2.2.2⟩
theorem bad_none {b r e : Int} (v : Bv b r e) : badPart (.int b) (.int r) (.int e) = none := by
  obtain ⟨b1, b2, r1, r2, e1, e2⟩ := v
  have p1 : partB 1000000 (.int b) = true := by
    show (decide (1 ≤ b) && decide (b ≤ 1000000)) = true
    rw [decide_eq_true b1, decide_eq_true b2]
    rfl
  have p2 : partB 1000 (.int r) = true := by
    show (decide (1 ≤ r) && decide (r ≤ 1000)) = true
    rw [decide_eq_true r1, decide_eq_true r2]
    rfl
  have p3 : partB 1000 (.int e) = true := by
    show (decide (1 ≤ e) && decide (e ≤ 1000)) = true
    rw [decide_eq_true e1, decide_eq_true e2]
    rfl
  unfold badPart
  rw [p1, p2, p3]
  rfl
theorem bk_make {H : Hp} {Q : VK} {E : XK} {b r e : Int} (v : Bv b r e) (k : ∀ x H', H x = none → Same H H' → BkAt (ga K "Bucket") H' x b r e → Q (.ref x) H') : rMake (ga K "Bucket") (spBkInit K) E [.int b, .int r, .int e] H Q := by
  intro x dx nx nd ne
  refine ⟨x, dx, .int b, .int r, .int e, rfl, upd_same, ⟨.inl ⟨_, rfl⟩, .inl ⟨_, rfl⟩, .inl ⟨_, rfl⟩⟩, fun _ => ⟨rfl, ?_⟩, fun w hw => ?_⟩
  · refine k x _ nx (fun a o h => ?_) ⟨dx, upd_same⟩
    rw [upd_ne (ne_of_none h nx), upd_ne (ne_of_none h nx), upd_ne (ne_of_none h nd)]
    exact h
  · rw [bad_none v] at hw
    cases hw
def hdD (z : Str) : PyData := .list [.tuple [.str "number", .str z], .tuple [.str "number", .str z], .tuple [.str "lengths", .str "lengths"]]
theorem hd_sh {z : Str} (h : PyData.strOk z = true) : SeqAt.shaped (hdD z) = true := by
  have o1 : PyData.strOk "number" = true := by decide +kernel
  have o2 : PyData.strOk "lengths" = true := by decide +kernel
  unfold SeqAt.shaped hdD
  simp [PyData.canLay0, PyData.canLayAll0, o1, o2, h, PyData.depth, PyData.depthAll]
theorem hd_eqv (z : Str) : PyData.eqv (hdD z) (hdD z) = true := by
  unfold hdD
  simp [PyData.eqv, PyData.eqvAll]
theorem odd_bk (S : HD sys K mg) {H : Hp} {v : V} {n : String} (h : OddV H v n) : NoBk K H v ∧ PySem.W.mroIn K (ga K "Bucket") (.type n) = some false := by
  have ty := h.ty (K := K)
  cases h with
  | int i => exact ⟨⟨_, ty, kit_int__o_Bucket__false S⟩, nm_Bucket_int S⟩
  | non => exact ⟨⟨_, ty, kit_NoneType__o_Bucket__false S⟩, nm_Bucket_NoneType S⟩
  | bl b => exact ⟨⟨_, ty, kit_bool__o_Bucket__false S⟩, nm_Bucket_bool S⟩
  | str s => exact ⟨⟨_, ty, kit_str__o_Bucket__false S⟩, nm_Bucket_str S⟩
  | lst e => exact ⟨⟨_, ty, kit_list__o_Bucket__false S⟩, nm_Bucket_list S⟩
  | tup e => exact ⟨⟨_, ty, kit_tuple__o_Bucket__false S⟩, nm_Bucket_tuple S⟩
  | dK e => exact ⟨⟨_, ty, kit_dict__o_Bucket__false S⟩, nm_Bucket_dict S⟩
theorem ch_odd (S : HD sys K mg) {H : Hp} {E : XK} {Q : Bool → Hp → Prop} {a dx q : Addr} {b r e : Int} {xs ys : List V} {y : V} {n : String} (hp : H q = some (.lst xs)) (ha : H a = some (.ins (ga K "Bucket") dx (bkF b r e))) (o : OddV H y n)
    (k : chIn2 K (ga K "Bucket") (spBkEq K) E q xs (.ref a) ys Q H) : chIn2 K (ga K "Bucket") (spBkEq K) E q xs (.ref a) (y :: ys) Q H :=
  ⟨hp, a, dx, _, rfl, ha, .inl ⟨n, o, (odd_bk S o).2, a, y, b, r, e, rfl, ⟨dx, ha⟩, .inr ⟨(odd_bk S o).1, false, rfl, k⟩⟩⟩
def spOthR (K : PySem.W.Frag) : Sp := fun vs H Q _ => ∃ (p c a l : Addr) (n : Nat) (b r e : Int), vs = [.ref p, .ref a, .ref l] ∧ Pn H p c n ∧ n < 600000 ∧ l ≠ p ∧ H l = some (.lst [.int b, .int r, .int e]) ∧ BkAt (ga K "Bucket") H a b r e ∧ Bv b r e ∧ LamX.Tabs (T_all K) H ∧
  ∀ H', Pn H' p c (n + 6) → LamX.Tabs (T_all K) H' → Q (.bl true) H'
theorem fk_clg__law_others_right {P : Program} {w : World} {base : Heap} (S : HD sys K mg) (TB : LamX.TabB base mg (tabAt K (ga K "_law_others_right")).1 (tabAt K (ga K "_law_others_right")).2) : FnOkG P w K mg base CX0 7 (Pl.adr K (Pl.fn "_law_others_right")) (fdAt K (Pl.adr K (Pl.fn "_law_others_right"))) ["_law_pen_here", "_law_made", "_law_parts"] (spOthR K) := by
  have hcode := code_of (d__law_others_right S)
  refine (d__law_others_right S).okGD sc__law_others_right (fun vs H Q E h => ?_) (fun A outer s H vs Q E hgd hr h => ?_)
  · repeat (first | (obtain ⟨rfl, _⟩ := h; rfl) | (obtain ⟨_, h⟩ := h))
  · have nd := sc__law_others_right.nd
    refine ⟨_, PSs.nox ((pss_cons (ps_set (i := 3) nd rfl (Or.inl rfl) (pe_f (cl__law_pick S) hr (by decide) pass0 (pa_cons (pv 0) (pa_cons (pe_lst (pa_cons (pe_lst (pa_cons pe_int pa_nil)) (pa_cons (pe_lst (pa_cons pe_int pa_nil)) (pa_cons (pe_lst (pa_cons pe_int pa_nil)) (pa_cons (pe_lst (pa_cons pe_int (pa_cons pe_int pa_nil))) (pa_cons (pe_lst (pa_cons pe_int (pa_cons pe_int pa_nil))) (pa_cons (pe_lst (pa_cons (pe_op op_add pe_int (pe_f (cl__law_draw S) hr (by decide) pass0 (pa_cons (pv 0) (pa_cons pe_int pa_nil)))) pa_nil)) pa_nil))))))) pa_nil))))
    (pss_cons (ps_if (pt_cmpR op_ne (pe_callB (call_reprV (smod S) hgd hr.units) (by rfl) (n_repr S) (by decide +kernel) (pa_cons (pe_mek (mek_Bucket_fits_lengths S) hr (by decide) pass_none (pv 1) (pk_cons (pe_cm (cm_Lengths_of S) hr (by decide) pass_none (pe_glob (v := .ref (ga K "Lengths")) rfl (g_Lengths S) rfl) (pa_cons (pv 3) pa_nil)) pk_nil)) pa_nil)) (pe_callB (call_reprV (smod S) hgd hr.units) (by rfl) (n_repr S) (by decide +kernel) (pa_cons (pe_cmpR op_ge (pe_ix ix_list (pv 2) pe_int (fun _ _ => rfl)) (pe_op op_sub (pe_op op_add (pe_ix ix_list (pv 3) (pe_un un_neg pe_int) (fun _ _ => rfl)) (pe_ix ix_list (pv 2) pe_int (fun _ _ => rfl))) pe_int) (nomark _)) pa_nil)) (nomark _)) (pss_one (ps_ret pe_bl)) pss_nil)
    (pss_cons (ps_set (i := 7) nd rfl (Or.inr rfl) (pe_f (cl__law_pick S) hr (by decide) pass0 (pa_cons (pv 0) (pa_cons (pe_lst (pa_cons pe_non (pa_cons (pe_un un_neg pe_int) (pa_cons pe_bl (pa_cons pe_str (pa_cons (pe_tup (pa_cons pe_int pa_nil)) (pa_cons (pe_lst pa_nil) (pa_cons pe_dnewK (pa_cons (pe_op op_sub pe_int (pe_op op_pow pe_int pe_int)) pa_nil))))))))) pa_nil))))
    (pss_cons (ps_set (i := 6) nd rfl (Or.inr rfl) (pe_f (cl__law_pick S) hr (by decide) pass0 (pa_cons (pv 0) (pa_cons (pe_lst (pa_cons pe_non (pa_cons pe_int (pa_cons (pe_lst (pa_cons pe_int pa_nil)) (pa_cons pe_str (pa_cons (pe_tup (pa_cons pe_int pa_nil)) (pa_cons (pv 1) pa_nil))))))) pa_nil))))
    (pss_cons (ps_set (i := 4) nd rfl (Or.inl rfl) (pe_lst (pa_cons (pe_lam (T := T_all K) (k := 4) (g__law_heard S) (d__law_heard S) (b__law_heard S) sc__law_heard rfl (.inl rfl) (fun _ => heard_gives S hgd (hr.mono (by decide))) TB hcode (.head _) (fun p hp e => tall_u S p hp _ (.head _) e) (hr.mono (by decide)) (LamX.lamS_by (sc := defScope s__law_others_right) (by decide +kernel)) rfl (fun _ _ _ _ _ => rfl) (fun A outer s H E f c' hr' => (pe_callO (pv 1) (ca_Bucket S) hr' (by decide) (passes_call (takes_of rfl rfl rfl rfl) (fun _ _ _ _ h => h)) (pa_cons (pv 7) pa_nil)))) pa_nil)))
    (pss_cons (ps_expr (pe_bm PySem.F.plainAttrs_list PySem.F.slot_list_append PySem.F.type_list_append mt_append (pv 4) (pa_cons (pe_lam (T := T_all K) (k := 4) (g__law_heard S) (d__law_heard S) (b__law_heard S) sc__law_heard rfl (.inl rfl) (fun _ => heard_gives S hgd (hr.mono (by decide))) TB hcode (.head _) (fun p hp e => tall_u S p hp _ (.head _) e) (hr.mono (by decide)) (LamX.lamS_by (sc := defScope s__law_others_right) (by decide +kernel)) rfl (fun _ _ _ _ _ => rfl) (fun A outer s H E f c' hr' => (pe_me (me_Bucket_earliest S) hr' (by decide) (passes_call (takes_of rfl rfl rfl rfl) (fun _ _ _ _ h => h)) (pv 1) (pa_cons (pv 7) pa_nil)))) pa_nil)))
    (pss_cons (ps_expr (pe_bm PySem.F.plainAttrs_list PySem.F.slot_list_append PySem.F.type_list_append mt_append (pv 4) (pa_cons (pe_lam (T := T_all K) (k := 4) (g__law_heard S) (d__law_heard S) (b__law_heard S) sc__law_heard rfl (.inl rfl) (fun _ => heard_gives S hgd (hr.mono (by decide))) TB hcode (.head _) (fun p hp e => tall_u S p hp _ (.head _) e) (hr.mono (by decide)) (LamX.lamS_by (sc := defScope s__law_others_right) (by decide +kernel)) rfl (fun _ _ _ _ _ => rfl) (fun A outer s H E f c' hr' => (pe_me (me_Bucket_fits S) hr' (by decide) (passes_call (takes_of rfl rfl rfl rfl) (fun _ _ _ _ h => h)) (pv 1) (pa_cons (pv 6) pa_nil)))) pa_nil)))
    (pss_cons (ps_if (pt_cmpR (op_neD hr.units) (pv 4) (pe_op op_cat (pe_op op_rep (pe_lst (pa_cons (pe_tup (pa_cons pe_str (pa_cons (pe_callB (call_reprV (smod S) hgd hr.units) (by rfl) (n_repr S) (by decide +kernel) (pa_cons (pv 7) pa_nil)) pa_nil))) pa_nil)) pe_int) (pe_lst (pa_cons (pe_tup (pa_cons pe_str (pa_cons pe_str pa_nil))) pa_nil))) (nomark _)) (pss_one (ps_ret pe_bl)) pss_nil)
    (pss_cons (ps_mark (ps_set (i := 5) nd rfl (Or.inl rfl) (pe_lst (pa_cons (pe_ifExp (pt_cmpR op_gt (pe_ix ix_list (pv 2) pe_int (fun _ _ => rfl)) pe_int (nomark _)) (pe_op op_sub (pe_ix ix_list (pv 2) pe_int (fun _ _ => rfl)) pe_int) pe_int) (pa_cons (pe_ix ix_list (pv 2) pe_int (fun _ _ => rfl)) (pa_cons (pe_ix ix_list (pv 2) pe_int (fun _ _ => rfl)) pa_nil))))))
    (pss_cons (ps_if (PW.pt (pw_or (pt_cmpR (op_neq (op_Bucket___eq__ S) (ne_Bucket S) (in_Bucket S).hm hr (by decide) pass0) (pv 1) (pe_mkeK0 (K' := K) rfl (mkk_Bucket_every_rate_burst S) hr (by decide) pass_none (pk_cons (pe_ix ix_list (pv 2) pe_int (fun _ _ => rfl)) (pk_cons (pe_ix ix_list (pv 2) pe_int (fun _ _ => rfl)) (pk_cons (pe_ix ix_list (pv 2) pe_int (fun _ _ => rfl)) pk_nil)))) (nomark _)) (pw_or1 (pt_cmpR (op_own (op_Bucket___eq__ S) (fun _ _ => rfl) hr (by decide) pass0) (pv 1) (pe_mke (mke_Bucket S) hr (by decide) pass_none (pa_cons (pe_ix ix_list (pv 5) pe_int (fun _ _ => rfl)) (pa_cons (pe_ix ix_list (pv 5) pe_int (fun _ _ => rfl)) (pa_cons (pe_ix ix_list (pv 5) pe_int (fun _ _ => rfl)) pa_nil)))) (nomark _))))) (pss_one (ps_ret pe_bl)) pss_nil)
    (pss_one (ps_ret (pe_cmpR (op_notInO2 (op_Bucket___eq__ S) hr (by decide) pass0) (pv 1) (pe_lst (pa_cons pe_non (pa_cons (pv 2) (pa_cons (pe_callTy call_tupOf (by rfl) (n_tuple S) (by decide +kernel) (pa_cons (pv 2) pa_nil)) (pa_cons (pe_callTy (call_strO (op_Bucket___str__ S) hr (by decide) pass0) (by rfl) (n_str S) (by decide +kernel) (pa_cons (pv 1) pa_nil)) (pa_cons (pe_mke (mke_Bucket S) hr (by decide) pass_none (pa_cons (pe_ix ix_list (pv 2) pe_int (fun _ _ => rfl)) (pa_cons (pe_ix ix_list (pv 2) pe_int (fun _ _ => rfl)) (pa_cons (pe_op op_add (pe_op op_mod (pe_callTy call_int1 (by rfl) (n_int S) (by decide +kernel) (pa_cons (pe_ix ix_list (pv 2) pe_int (fun _ _ => rfl)) pa_nil)) pe_int) pe_int) pa_nil)))) pa_nil)))))) (by rfl))))))))))))))), ?_⟩
    try dsimp only [cxOf_K]
    obtain ⟨p, c, a, l, n, b, r, e, rfl, hP, hn, lp, hl, ⟨dx, ha⟩, bv, hT, k⟩ := h
    obtain ⟨b1, b2, r1, r2, e1, e2⟩ := id bv
    refine go_start (σ' := [_, _, _, none, none, none, none, none]) rfl ?_
    walk_at "gm"
    rename_i q1 A1 m1 c1 g1 q2 A2 m2 c2 g2 q3 A3 m3 c3 g3 q4 A4 m4 c4 g4 q5 A5 m5 c5 g5 d D d0 d1 Pd kd q6 A6 m6 c6 g6 q7 A7 m7 c7 g7 v Hv hv Pv kv
    obtain ⟨q, ms, rfl, hq, okm⟩ : ∃ q ms, v = .ref q ∧ Hv q = some (.lst (natV ms)) ∧ NsOk ms := by
      simp only [List.mem_cons, List.not_mem_nil, or_false] at hv
      rcases hv with rfl | rfl | rfl | rfl | rfl | rfl
      · exact ⟨q1, [1], rfl, show Hv q1 = some (HO.lst [.int 1]) by walk_at "hp", okB (by decide)⟩
      · exact ⟨q2, [3], rfl, show Hv q2 = some (HO.lst [.int 3]) by walk_at "hp", okB (by decide)⟩
      · exact ⟨q3, [60], rfl, show Hv q3 = some (HO.lst [.int 60]) by walk_at "hp", okB (by decide)⟩
      · exact ⟨q4, [2, 5], rfl, show Hv q4 = some (HO.lst [.int 2, .int 5]) by walk_at "hp", okB (by decide)⟩
      · exact ⟨q5, [59, 60], rfl, show Hv q5 = some (HO.lst [.int 59, .int 60]) by walk_at "hp", okB (by decide)⟩
      · refine ⟨q6, [(1 + d).toNat], rfl, ?_, ok_one d0 d1⟩
        have : Hv q6 = some (HO.lst [.int (1 + d)]) := by walk_at "hp"
        rw [this]
        show _ = some (HO.lst [.int ((1 + d).toNat : Nat)])
        rw [Int.toNat_of_nonneg (by omega)]
    have hav : Hv a = some (.ins (ga K "Bucket") dx (bkF b r e)) := by walk_at "hp"
    have hlv : Hv l = some (.lst [.int b, .int r, .int e]) := by walk_at "hp"
    have Tv : LamX.Tabs (T_all K) Hv := by walk_at "tb"
    clear hv g1 g2 g3 g4 g5 g6 g7
    refine ⟨_, rfl, .inl ⟨q, intsV ms, rfl, .inl (by rw [← natV_ints]; exact hq), okm.all.1, okm.all.2.1, okm.all.2.2, fun x G1 nx s1 lx => ?_⟩⟩
    rw [nsOf_self okm] at lx
    walk_at "gm"
    refine ⟨rfl, ?_⟩
    refine ⟨a, .ref x, b, r, e, rfl, ⟨dx, s1 _ _ hav⟩, bv, .inl ⟨x, ms, rfl, lx, ?_⟩⟩
    walk_at "gm"
    refine go_reprV rp_bl ?_
    walk_at "gm"
    refine go_ixl (.of (s1 _ _ hq)) (natV_last okm.ne) ?_
    walk_at "gm"
    refine go_reprV rp_bl ?_
    walk_at "gm"
    refine go_ndec (fun q => absurd rfl q) (fun _ => ?_)
    walk_at "gm"
    rename_i t0 B1 nt0 st0 ht0 e0 B2 ne0 se0 he0 k0 B3 nk0 sk0 hk0 o0 B4 no0 so0 ho0 odd B5 hodd PB5 kB5 i0 B6 ni0 si0 hi0 t1 B7 nt1 st1 ht1 o1 B8 no1 so1 ho1 bad B9 hbad PB9 kB9
    have h9a : B9 a = some (.ins (ga K "Bucket") dx (bkF b r e)) := by walk_at "hp"
    have h9l : B9 l = some (.lst [.int b, .int r, .int e]) := by walk_at "hp"
    have T9 : LamX.Tabs (T_all K) B9 := by walk_at "tb"
    have h9t : B9 t0 = some (.tup [.int 0]) := by walk_at "hp"
    have h9e : B9 e0 = some (.lst []) := by walk_at "hp"
    have h9k : B9 k0 = some (.dK []) := by walk_at "hp"
    have h9i : B9 i0 = some (.lst [.int 1]) := by walk_at "hp"
    have h9u : B9 t1 = some (.tup [.int 1]) := by walk_at "hp"
    obtain ⟨Z, hZ, sZ, hno⟩ : ∃ Z : PyData, (∀ H', LamX.ExtN B9 H' → ReprOk H' odd Z) ∧ PyData.strOk Z.shown = true ∧ ∀ H', LamX.ExtN B9 H' → NoCnt K H' odd := by
      simp only [List.mem_cons, List.not_mem_nil, or_false] at hodd
      rcases hodd with rfl | rfl | rfl | rfl | rfl | rfl | rfl | rfl
      · exact ⟨.none, fun H' e => (rp_lit (.flat .non) (by decide +kernel)).1, by decide +kernel, fun H' e => .inr (odd_noint .non (by intro i z; cases z))⟩
      · exact ⟨.int (-1), fun H' e => (rp_lit (.flat (.int _)) (by decide +kernel)).1, by decide +kernel, fun H' e => .inl ⟨_, rfl, by decide⟩⟩
      · exact ⟨.bool true, fun H' e => (rp_lit (.flat (.bl _)) (by decide +kernel)).1, by decide +kernel, fun H' e => .inr (odd_noint (.bl _) (by intro i z; cases z))⟩
      · exact ⟨.str "0", fun H' e => (rp_lit (.flat (.str _)) (by decide +kernel)).1, by decide +kernel, fun H' e => .inr (odd_noint (.str _) (by intro i z; cases z))⟩
      · exact ⟨.tuple [.int 0], fun H' e => (rp_lit (.tup (e _ _ h9t (by intro _ z; cases z)) (.cons (.int _) .nil)) (by decide +kernel)).1, by decide +kernel, fun H' e => .inr (odd_noint (.tup (e _ _ h9t (by intro _ z; cases z))) (by intro i z; cases z))⟩
      · exact ⟨.list [], fun H' e => (rp_lit (.lst (e _ _ h9e (by intro _ z; cases z)) .nil) (by decide +kernel)).1, by decide +kernel, fun H' e => .inr (odd_noint (.lst (e _ _ h9e (by intro _ z; cases z))) (by intro i z; cases z))⟩
      · exact ⟨.dict [], fun H' e => (rp_lit (.dic (e _ _ h9k (by intro _ z; cases z)) .nil) (by decide +kernel)).1, by decide +kernel, fun H' e => .inr (odd_noint (.dK (e _ _ h9k (by intro _ z; cases z))) (by intro i z; cases z))⟩
      · exact ⟨.int (-1000000000000000000000000000000), fun H' e => (rp_lit (.flat (.int _)) (by decide +kernel)).1, by decide +kernel, fun H' e => .inl ⟨_, rfl, by decide⟩⟩
    have hbn : ∀ H', LamX.ExtN B9 H' → NoLn K H' bad := by
      intro H' e
      simp only [List.mem_cons, List.not_mem_nil, or_false] at hbad
      rcases hbad with rfl | rfl | rfl | rfl | rfl | rfl
      · exact (odd_ln S .non).1
      · exact (odd_ln S (.int _)).1
      · exact (odd_ln S (.lst (e _ _ h9i (by intro _ z; cases z)))).1
      · exact (odd_ln S (.str _)).1
      · exact (odd_ln S (.tup (e _ _ h9u (by intro _ z; cases z)))).1
      · exact ⟨_, tyIns (in_Bucket S) (e _ _ h9a (by intro _ z; cases z)), kit_o_Bucket__o_Lengths__false S, fr_Lengths_o_Bucket S⟩
    clear hodd hbad ht0 he0 hk0 ho0 hi0 ht1 ho1 h9t h9e h9k h9i h9u
    refine heard_num odd Z T9 hZ (fun F E Q' x er => ?_) (fun p1 F1 x1 T1 hp1 => ?_)
    · walk_at "gm"
      refine go_callO ?_
      walk_at "gm"
      refine callO_x ?_
      walk_at "gm"
      have fa := x _ _ h9a (by intro _ z; cases z)
      exact ⟨dx, _, fa, a, odd, b, r, e, rfl, ⟨dx, fa⟩, bv, .inr ⟨hno F x, er⟩⟩
    walk_at "gm"
    rename_i hl F2 nhl shl hhl
    refine heard_num odd Z (by walk_at "tb") (fun H' e => hZ H' (LamX.ExtN.trans (show LamX.ExtN B9 F2 by walk_at "xt") e)) (fun F E Q' x er => ?_) (fun p2 F3 x3 T3 hp2 => ?_)
    · walk_at "gm"
      have xF : LamX.ExtN B9 F := by walk_at "xt"
      have fa := xF _ _ h9a (by intro _ z; cases z)
      exact ⟨a, odd, b, r, e, rfl, ⟨dx, fa⟩, bv, .inr ⟨hno F xF, er⟩⟩
    walk_at "gm"
    rename_i F4 k4 hl4
    have h2l : p2 ≠ hl := fun z => by
      have e : F3 hl = some (.lst [.ref p1]) := by walk_at "hp"
      rw [z, e] at hp2
      cases hp2
    refine heard_len (.str "lengths") (by walk_at "tb") (fun F E Q' x er => ?_) (fun p3 F5 x5 T5 hp3 => ?_)
    · walk_at "gm"
      have xF : LamX.ExtN B9 F := by walk_at "xt"
      have fa := xF _ _ h9a (by intro _ z; cases z)
      exact ⟨a, bad, b, r, e, rfl, ⟨dx, fa⟩, bv, .inr ⟨hbn F xF, er⟩⟩
    have h3l : p3 ≠ hl := fun z => by
      have e : F5 hl = some (.lst [.ref p1, .ref p2]) := by walk_at "hp"
      rw [z, e] at hp3
      cases hp3
    walk_at "gm"
    refine go_reprV (hZ _ (by walk_at "xt")) ?_
    walk_at "gm"
    refine ⟨hdD Z.shown, hdD Z.shown, .lst (by walk_at "sq") (.cons (.tup (by walk_at "sq") (.cons (.str _) (.cons (.str _) .nil))) (.cons (.tup (by walk_at "sq") (.cons (.str _) (.cons (.str _) .nil))) (.cons (.tup (by walk_at "sq") (.cons (.str _) (.cons (.str _) .nil))) .nil))),
      .lst (by walk_at "sq") (.cons (.tup (by walk_at "sq") (.cons (.str _) (.cons (.str _) .nil))) (.cons (.tup (by walk_at "sq") (.cons (.str _) (.cons (.str _) .nil))) (.cons (.tup (by walk_at "sq") (.cons (.str _) (.cons (.str _) .nil))) .nil))), hd_sh sZ, hd_sh sZ, ?_⟩
    rw [hd_eqv]
    refine ⟨_, rfl, ?_⟩
    walk_at "gm"
    rename_i lz FZ nlz slz hlz
    have za : FZ a = some (.ins (ga K "Bucket") dx (bkF b r e)) := by walk_at "hp"
    have zl : FZ l = some (.lst [.int b, .int r, .int e]) := by walk_at "hp"
    have zp : Pn FZ p c (n + 4) := Pn.mono (by walk_at "pen") (by omega)
    have zt : LamX.Tabs (T_all K) FZ := by walk_at "tb"
    refine mark_N (fun σ' G => ∃ (ol : Addr) (o : Int), σ' = [some (.ref p), some (.ref a), some (.ref l), some (.ref q), some (.ref hl), some (.ref ol), some bad, some odd] ∧ Same FZ G ∧ G ol = some (.lst [.int o, .int r, .int e]) ∧ Bv o r e ∧ o ≠ b) ?_ ?_
    · rintro σ' G ⟨ol, o, rfl, sG, hol, bo, ob⟩
      have ga : G a = some (.ins (ga K "Bucket") dx (bkF b r e)) := sG _ _ za
      have gl := sG _ _ zl
      have gp := pn_sm sG zp
      have gt := tabs_same zt sG
      clear hlz slz zl zp zt za sG
      walk_at "gm"
      refine bk_make bv fun x2 G2 nx2 s2 hx2 => ?_
      obtain ⟨dz, hz⟩ := hx2
      refine go_nec (s2 _ _ ga) (tyIns (in_Bucket S) hz) (fr_Bucket_o_Bucket S) ?_
      refine ⟨a, .ref x2, b, r, e, rfl, ⟨dx, s2 _ _ ga⟩, .inl ⟨x2, b, r, e, rfl, ⟨dz, hz⟩, ⟨_, rfl, ?_⟩⟩⟩
      rw [decide_eq_true ⟨rfl, rfl, rfl⟩]
      walk_at "gm"
      refine bk_make bo fun x3 G3 nx3 s3 hx3 => ?_
      obtain ⟨dw, hw⟩ := hx3
      refine go_own (s3 _ _ (s2 _ _ ga)) (tyIns (in_Bucket S) hw) (fr_Bucket_o_Bucket S) ?_
      refine ⟨a, .ref x3, b, r, e, rfl, ⟨dx, s3 _ _ (s2 _ _ ga)⟩, .inl ⟨x3, o, r, e, rfl, ⟨dw, hw⟩, ?_⟩⟩
      rw [decide_eq_false (fun h => ob h.1.symm)]
      refine ⟨_, rfl, ?_⟩
      walk_at "gm"
      have g3l : G3 l = some (.lst [.int b, .int r, .int e]) := s3 _ _ (s2 _ _ gl)
      refine go_tupofL (.of g3l) fun tu G4 n4 s4 htu => ?_
      walk_at "gm"
      have g4a := s4 _ _ (s3 _ _ (s2 _ _ ga))
      have g4l := s4 _ _ g3l
      refine ⟨a, b, r, e, rfl, ⟨dx, g4a⟩, bv, ⟨_, rfl, ?_⟩⟩
      walk_at "gm"
      refine bk_make (b := b) (r := r) (e := e % 1000 + 1) ⟨b1, b2, r1, r2, by omega, by omega⟩ fun x5 G5 nx5 s5 hx5 => ?_
      obtain ⟨dv, hv5⟩ := hx5
      walk_at "gm"
      rename_i xl G6 n6 s6 hxl
      have g6a := s6 _ _ (s5 _ _ g4a)
      have g6v := s6 _ _ hv5
      have ax : x5 ≠ a := fun z => by
        rw [z, g4a] at nx5
        cases nx5
      refine ⟨xl, [.non, .ref l, .ref tu, .str (strB b r e), .ref x5], rfl, ?_⟩
      refine ch_odd S hxl g6a .non ?_
      refine ch_odd S hxl g6a (.lst (s6 _ _ (s5 _ _ g4l))) ?_
      refine ch_odd S hxl g6a (.tup (s6 _ _ (s5 _ _ htu))) ?_
      refine ch_odd S hxl g6a (.str _) ?_
      refine ⟨hxl, a, dx, _, rfl, g6a, .inr ⟨x5, dv, _, _, rfl, ax, g6v, tyIns (in_Bucket S) g6a, fr_Bucket_o_Bucket S, x5, .ref a, _, _, _, rfl, ⟨dv, g6v⟩, .inl ⟨a, b, r, e, rfl, ⟨dx, g6a⟩, _, rfl, ?_⟩⟩⟩
      rw [decide_eq_false (fun h => by have := h.2.2; omega)]
      refine ⟨hxl, ?_⟩
      refine k G6 (Pn.mono (pn_sm s6 (pn_sm s5 (pn_sm s4 (pn_sm s3 (pn_sm s2 gp))))) (by omega)) (tabs_same gt (s2.trans (s3.trans (s4.trans (s5.trans s6)))))
    · intro N cont
      walk_at "gm"
      refine go_dec (fun z => ?_) (fun z => ?_)
      · walk_at "gm"
        rename_i ol G nol sol hol
        exact cont _ _ ⟨ol, b - 1, rfl, sol, hol, ⟨by omega, by omega, r1, r2, e1, e2⟩, by omega⟩
      · walk_at "gm"
        rename_i ol G nol sol hol
        exact cont _ _ ⟨ol, 2, rfl, sol, hol, ⟨by omega, by omega, r1, r2, e1, e2⟩, by omega⟩
theorem clg__law_others_right {P : Program} {w : World} {base : Heap} (S : HD sys K mg) (TB : LamX.TabB base mg (tabAt K (ga K "_law_others_right")).1 (tabAt K (ga K "_law_others_right")).2) : ClG P w K mg base CX0 7 "_law_others_right" (spOthR K) := ⟨_, _, _, (fk_clg__law_others_right S TB), g__law_others_right S, (d__law_others_right S).kp, b__law_others_right S⟩
/-! ### the law -/
theorem bk_bad {H : Hp} {Q : VK} {E : XK} {v1 v2 v3 : V} {w : Str} (i : IntOrNo K H v1 ∧ IntOrNo K H v2 ∧ IntOrNo K H v3) (h : badPart v1 v2 v3 = some w) (er : Er1 K "BadBucket" "part" (.str w) H E) : rMake (ga K "Bucket") (spBkInit K) E [v1, v2, v3] H Q := by
  intro x dx nx nd ne
  have sm : Same H (upd (upd H dx (.own x)) x (.ins (ga K "Bucket") dx [])) := (Same.new nd).trans (Same.new ((upd_ne (Ne.symm ne)).trans nx))
  refine ⟨x, dx, v1, v2, v3, rfl, upd_same, ⟨i.1.same sm, i.2.1.same sm, i.2.2.same sm⟩, fun z => ?_, fun w' z => ?_⟩
  · rw [h] at z
    cases z
  · rw [h] at z
    cases z
    exact er1_sm sm er
theorem part_int {m : Int} {v : V} (h : partB m v = true) : ∃ i : Int, v = .int i ∧ 1 ≤ i ∧ i ≤ m := by
  cases v with
  | int i =>
    obtain ⟨a, b⟩ := Bool.and_eq_true_iff.mp (show (decide (1 ≤ i) && decide (i ≤ m)) = true from h)
    exact ⟨i, rfl, of_decide_eq_true a, of_decide_eq_true b⟩
  | _ => cases h
theorem none_ints {v1 v2 v3 : V} (h : badPart v1 v2 v3 = none) : ∃ b r e : Int, v1 = .int b ∧ v2 = .int r ∧ v3 = .int e ∧ Bv b r e := by
  unfold badPart at h
  cases e1 : partB 1000000 v1 with
  | false =>
    rw [if_pos e1] at h
    cases h
  | true =>
    rw [if_neg (by rw [e1]; decide)] at h
    cases e2 : partB 1000 v2 with
    | false =>
      rw [if_pos e2] at h
      cases h
    | true =>
      rw [if_neg (by rw [e2]; decide)] at h
      cases e3 : partB 1000 v3 with
      | false =>
        rw [if_pos e3] at h
        cases h
      | true =>
        obtain ⟨b, rfl, b1, b2⟩ := part_int e1
        obtain ⟨r, rfl, r1, r2⟩ := part_int e2
        obtain ⟨e, rfl, p1, p2⟩ := part_int e3
        exact ⟨b, r, e, rfl, rfl, rfl, b1, b2, r1, r2, p1, p2⟩
theorem go_neSS {H : Hp} {Q : VK} {a b : Addr} {x y : Str} (ha : SqT K H a [.str x, .str y]) (hb : SqT K H b [.str x, .str y]) (ox : PyData.strOk x = true) (oy : PyData.strOk y = true) (k : Q (.bl false) H) : rNeD K (.ref a) (.ref b) H Q := by
  have sh : SeqAt.shaped (.tuple [.str x, .str y]) = true := by
    unfold SeqAt.shaped
    simp [PyData.canLay0, PyData.canLayAll0, ox, oy, PyData.depth, PyData.depthAll]
  refine ⟨.tuple [.str x, .str y], .tuple [.str x, .str y], .tup ha (.cons (.str _) (.cons (.str _) .nil)), .tup hb (.cons (.str _) (.cons (.str _) .nil)), sh, sh, ?_⟩
  refine bl_of (R := fun v => Q v H) (y := false) (by simp [PyData.eqv, PyData.eqvAll]) k
theorem bad_ok {v1 v2 v3 : V} {w : Str} (h : badPart v1 v2 v3 = some w) : PyData.strOk w = true := by
  unfold badPart at h
  split at h
  · cases h
    decide +kernel
  · split at h
    · cases h
      decide +kernel
    · split at h
      · cases h
        decide +kernel
      · cases h
theorem tabs_two {H : Hp} (h1 : H (tabAt K (ga K "_law_others_right")).2 = some (.tbl #[])) (h2 : H (tabAt K (ga K "law")).2 = some (.tbl #[])) : LamX.Tabs (T_all K) H := fun p hp => by
  simp only [List.mem_cons, List.not_mem_nil, or_false] at hp
  rcases hp with rfl | rfl
  · exact LamX.TabS.nil h1
  · exact LamX.TabS.nil h2
def spLaw (K : PySem.W.Frag) : Sp := fun vs H Q _ => ∃ (a : Addr) (ns : List Int), vs = [.ref a] ∧ SqL K H a (ns.map V.int) ∧ LamX.Tabs (T_all K) H ∧ ∀ H', Q (.bl true) H'
theorem law_ok {P : Program} {w : World} {base : Heap} (S : HD sys K mg) (TB : LamX.TabB base mg (tabAt K (ga K "law")).1 (tabAt K (ga K "law")).2) (TB__law_others_right : LamX.TabB base mg (tabAt K (ga K "_law_others_right")).1 (tabAt K (ga K "_law_others_right")).2) : FnOkG P w K mg base CX0 8 (Pl.adr K (Pl.fn "law")) (fdAt K (Pl.adr K (Pl.fn "law"))) ["_law_script"] (spLaw K) := by
  have hcode := code_of (d_law S)
  refine (d_law S).okGD sc_law (fun vs H Q E h => ?_) (fun A outer s H vs Q E hgd hr h => ?_)
  · repeat (first | (obtain ⟨rfl, _⟩ := h; rfl) | (obtain ⟨_, h⟩ := h))
  · have nd := sc_law.nd
    refine ⟨_, PSs.nox ((pss_cons (ps_set (i := 1) nd rfl (Or.inl rfl) (pe_f (cl__law_pen S) hr (by decide) pass0 (pa_cons (pv 0) pa_nil)))
    (pss_cons (ps_for PassesOwn.never rfl (pi_range1 (by rfl) (n_range S) (pa_cons pe_int pa_nil)) (pg_name (i := 2) nd rfl (Or.inl rfl))
      (pss_cons (ps_set (i := 7) nd rfl (Or.inr rfl) (pe_lst (pa_cons (pe_f (cl__law_part S) hr (by decide) pass0 (pa_cons (pv 1) (pa_cons (pe_op op_pow pe_int pe_int) pa_nil))) (pa_cons (pe_f (cl__law_part S) hr (by decide) pass0 (pa_cons (pv 1) (pa_cons pe_int pa_nil))) (pa_cons (pe_f (cl__law_part S) hr (by decide) pass0 (pa_cons (pv 1) (pa_cons pe_int pa_nil))) pa_nil)))))
    (pss_cons (ps_par (i := 3) (j := 4) (by rfl) nd rfl rfl (by decide) rfl rfl (pa_cons (pe_f (cl__law_due S) hr (by decide) pass0 (pa_cons (pv 7) pa_nil)) (pa_cons (pe_lam (T := T_all K) (k := 4) (g__law_heard S) (d__law_heard S) (b__law_heard S) sc__law_heard rfl (.inl rfl) (fun _ => heard_gives S hgd (hr.mono (by decide))) TB hcode (.tail _ (.head _)) (fun p hp e => tall_u S p hp _ (.tail _ (.head _)) e) (hr.mono (by decide)) (LamX.lamS_by (sc := defScope s_law) (by decide +kernel)) rfl (fun _ _ _ _ _ => rfl) (fun A outer s H E f c' hr' => (pe_mkek (K' := K) rfl (mke_Bucket S) hr' (by decide) (passes_call (takes_of rfl rfl rfl rfl) (fun _ _ _ _ h => h)) (pa_cons (pe_ix (ixk (r := rIxL) (K' := K) rfl ix_list) (pv 7) pe_int (fun _ _ => rfl)) (pa_cons (pe_ix (ixk (r := rIxL) (K' := K) rfl ix_list) (pv 7) pe_int (fun _ _ => rfl)) (pa_cons (pe_ix (ixk (r := rIxL) (K' := K) rfl ix_list) (pv 7) pe_int (fun _ _ => rfl)) pa_nil)))))) pa_nil)) (by rfl))
    (pss_one (ps_if (pt_cmpR op_notN1 (pv 3) pe_non (nomark _)) (pss_one (ps_if (pt_cmpR (op_neD hr.units) (pv 4) (pe_tup (pa_cons pe_str (pa_cons (pv 3) pa_nil))) (nomark _)) (pss_one (ps_ret pe_bl)) pss_nil)) (pss_cons (ps_set (i := 5) nd rfl (Or.inl rfl) (pe_ix ix_list (pv 4) pe_int (fun _ _ => rfl)))
    (pss_cons (ps_if (PW.pt (pw_or (pt_not (pt_val (pe_callB call_isi (by rfl) (n_isinstance S) (by decide +kernel) (pa_cons (pv 5) (pa_cons (pe_glob (v := .ref (ga K "Bucket")) rfl (g_Bucket S) rfl) pa_nil))))) (pw_or1 (pt_cmpR op_ne (pe_callB (call_reprV (smod S) hgd hr.units) (by rfl) (n_repr S) (by decide +kernel) (pa_cons (pe_lst (pa_cons (pe_fld (pv 5) rfl) (pa_cons (pe_fld (pv 5) rfl) (pa_cons (pe_fld (pv 5) rfl) pa_nil)))) pa_nil)) (pe_callB (call_reprV (smod S) hgd hr.units) (by rfl) (n_repr S) (by decide +kernel) (pa_cons (pv 7) pa_nil)) (nomark _))))) (pss_one (ps_ret pe_bl)) pss_nil)
    (pss_one (ps_if (PW.pt (pw_or (pt_not (pt_val (pe_fG (clg__law_numbers_right S) hr (by decide) hgd pass0 (pa_cons (pv 1) (pa_cons (pv 5) (pa_cons (pv 7) pa_nil)))))) (pw_or1 (pt_not (pt_val (pe_fG (clg__law_others_right S TB__law_others_right) hr (by decide) hgd pass0 (pa_cons (pv 1) (pa_cons (pv 5) (pa_cons (pv 7) pa_nil))))))))) (pss_one (ps_ret pe_bl)) pss_nil)))))))))
    (pss_cons (ps_set (i := 6) nd rfl (Or.inr rfl) (pe_mke (mke_Bucket S) hr (by decide) pass_none (pa_cons pe_int (pa_cons pe_int (pa_cons pe_int pa_nil)))))
    (pss_one (ps_ret (pe_and (pe_cmpR (op_eqD hr.units) (pe_lc (own := [("_law_bits_so", 8)]) (g := gName 8) rfl nd (pi_range1 (by rfl) (n_range S) (pa_cons pe_int pa_nil)) (blkOk_by (own := [("_law_bits_so", 8)]) (N := ["_law_script", "_law_pen_here", "_law_lap", "_law_due_here", "_law_heard_here", "_law_made", "_law_bucket_so", "_law_parts", "_law_bits_so"]) (sc := defScope s_law) (by decide +kernel)) (fun _ _ _ _ _ => (pg_name (i := 8) nd rfl (Or.inl rfl))) (fun _ _ _ _ _ => pts_nil) (fun _ _ _ _ _ => (pe_me (me_Bucket_earliest S) hr (by decide) pass_none (pv 6) (pa_cons (pv 8) pa_nil)))) (pe_lst (pa_cons pe_int (pa_cons pe_int (pa_cons pe_int (pa_cons pe_int (pa_cons pe_int (pa_cons pe_int pa_nil))))))) (nomark _)) (pe_one (pe_cmpR op_eq (pe_callO (pv 6) (ca_Bucket S) hr (by decide) pass_none (pa_cons pe_int pa_nil)) pe_int (nomark _)))))))))), ?_⟩
    try dsimp only [cxOf_K]
    obtain ⟨a, ns, rfl, hS, hT, k⟩ := h
    have cCBucket := C_Bucket S
    have naBucketburst := na_Bucket_burst S
    have naBucketrate := na_Bucket_rate S
    have naBucketevery := na_Bucket_every S
    refine go_start (σ' := [_, none, none, none, none, none, none, none, none]) rfl ?_
    walk_at "gm"
    refine ⟨a, ns, rfl, hS, fun p c H0 P0 s0 np nc => ?_⟩
    have T0 : LamX.Tabs (T_all K) H0 := by walk_at "tb"
    walk_at "gm"
    refine forRange (fun i σ' H' => Pn H' p c (i * 40) ∧ LamX.Tabs (T_all K) H' ∧ ∃ u2 u3 u4 u5 u6 u7 u8, σ' = [some (.ref a), some (.ref p), u2, u3, u4, u5, u6, u7, u8]) ⟨P0, T0, none, none, none, none, none, none, none, rfl⟩ ?_ ?_
    · rintro i σ H1 hi ⟨P1, T1, u2, u3, u4, u5, u6, u7, u8, rfl⟩
      have hi14 : i < 14 := hi
      walk_at "gm"
      refine ⟨p, c, _, 1000000, rfl, P1, by omega, by decide, by decide, fun v1 H2 pv1 P2 k2 => ?_⟩
      walk_at "gm"
      refine ⟨p, c, _, 1000, rfl, P2, by omega, by decide, by decide, fun v2 H3 pv2 P3 k3 => ?_⟩
      walk_at "gm"
      refine ⟨p, c, _, 1000, rfl, P3, by omega, by decide, by decide, fun v3 H4 pv3 P4 k4 => ?_⟩
      walk_at "gm"
      rename_i l H5 nl s5 hl
      have q1 := ((pv1.kp k3).kp k4).sm s5
      have q2 := (pv2.kp k4).sm s5
      have q3 := pv3.sm s5
      have lp : l ≠ p := by walk_at "ne"
      have T5 : LamX.Tabs (T_all K) H5 := by walk_at "tb"
      have P5 : Pn H5 p c (i * 40 + 12) := Pn.mono (by walk_at "pen") (by omega)
      refine ⟨l, v1, v2, v3, rfl, hl, fun H' s => ⟨(q1.sm s).ion, (q2.sm s).ion, (q3.sm s).ion⟩, fun H6 s6 => ?_⟩
      have hl6 := s6 _ _ hl
      have T6 := tabs_same T5 s6
      have P6 := pn_sm s6 P5
      cases hb : badPart v1 v2 v3 with
      | some w =>
        rw [show dueV (some w) = V.str w from rfl]
        walk_at "gm"
        refine heard_bk (.str w) T6 (fun F E Q' x er => ?_) (fun p1 F1 x1 TF hp1 => ?_)
        · walk_at "gm"
          exact bk_bad ⟨((q1.sm s6).xt x).ion, ((q2.sm s6).xt x).ion, ((q3.sm s6).xt x).ion⟩ hb er
        walk_at "gm"
        rename_i tz F2 ntz stz htz
        refine go_neSS (.of (stz _ _ hp1)) (.of htz) (by decide +kernel) (bad_ok hb) ?_
        refine ⟨_, rfl, ?_⟩
        walk_at "gm"
        exact ⟨Pn.mono (by walk_at "pen") (by omega), by walk_at "tb", _, _, _, _, _, _, _, rfl⟩
      | none =>
        obtain ⟨b, r, e, rfl, rfl, rfl, bv⟩ := none_ints hb
        rw [show dueV none = V.non from rfl]
        walk_at "gm"
        refine heard_ok T6 (fun v H' => ∃ x, v = .ref x ∧ BkAt (ga K "Bucket") H' x b r e) (fun F E Q' x ok => ?_) (fun v p1 F0 F1 x0 gv s1 T7 hp1 => ?_)
        · walk_at "gm"
          exact bk_make bv fun y H' ny s hy => ok _ _ s ⟨y, rfl, hy⟩
        obtain ⟨y, rfl, dy, hy⟩ := gv
        walk_at "gm"
        have hy1 := s1 _ _ hy
        have hl1 : F1 l = some (.lst [.int b, .int r, .int e]) := s1 _ _ (x0 _ _ hl6 (by intro _ z; cases z))
        have PF : Pn F1 p c (i * 40 + 12) := by walk_at "pen"
        obtain ⟨b1, b2, r1, r2, e1, e2⟩ := id bv
        have lg : ∀ j ∈ [b, r, e], j.natAbs.log2 < 1920 := fun j hj => by
          simp only [List.mem_cons, List.not_mem_nil, or_false] at hj
          rcases hj with rfl | rfl | rfl
          · exact log_70 (by omega) (by omega)
          · exact log_70 (by omega) (by omega)
          · exact log_70 (by omega) (by omega)
        refine go_isi (.own _) (tyIns (in_Bucket S) hy1) (kit_o_Bucket__o_Bucket__true S) ?_
        walk_at "gm"
        rename_i lr F2 nlr slr hlr
        refine go_reprV (repr_ints [b, r, e] hlr lg (by simp)) ?_
        walk_at "gm"
        refine go_reprV (repr_ints [b, r, e] (slr _ _ hl1) lg (by simp)) ?_
        walk_at "gm"
        refine go_ndec (fun q => absurd rfl q) (fun _ => ?_)
        walk_at "gm"
        refine ⟨p, c, y, l, _, b, r, e, rfl, pn_sm slr PF, by omega, lp, slr _ _ hl1, ⟨dy, slr _ _ hy1⟩, bv, fun F3 P7 k7 => ?_⟩
        walk_at "gm"
        have yp : y ≠ p := fun z => by
          obtain ⟨zs, hz⟩ := PF.lst
          rw [← z, hy1] at hz
          cases hz
        refine ⟨p, c, y, l, _, b, r, e, rfl, P7, by omega, lp, k7 _ _ (slr _ _ hl1) lp, ⟨dy, k7 _ _ (slr _ _ hy1) yp⟩, bv, by walk_at "tb", fun F4 P8 T8 => ?_⟩
        walk_at "gm"
        exact ⟨Pn.mono P8 (by omega), T8, _, _, _, _, _, _, _, rfl⟩
    · rintro σ H1 ⟨P1, T1, u2, u3, u4, u5, u6, u7, u8, rfl⟩
      walk_at "gm"
      refine bk_make (b := 2) (r := 1) (e := 6) ⟨by decide, by decide, by decide, by decide, by decide, by decide⟩ fun x H2 nx s2 hx => ?_
      obtain ⟨dz, hz⟩ := hx
      walk_at "gm"
      have bv26 : Bv 2 1 6 := ⟨by decide, by decide, by decide, by decide, by decide, by decide⟩
      refine lcRangeIf (lo := 0) (n := 6) (fun _ => true) (fun i => .int (Bk.early 2 1 6 (i : Nat))) (by decide) (fun _ => rfl) (fun i H' Q' hi s kk => kk H' (Same.refl _)) (fun i H' Q' hi _ s kk => ?_) (fun D H3 nD s3 hD => ?_)
      · have hz' := s _ _ hz
        dsimp only [List.map, wipe, List.set]
        walk_at "gm"
        refine ⟨x, .int (0 + (i : Nat)), 2, 1, 6, rfl, ⟨dz, hz'⟩, bv26, .inl ⟨_, rfl, by omega, ?_⟩⟩
        rw [Int.zero_add]
        exact kk H' (Same.refl _)
      have e6 : ((List.range 6).filter fun _ => true).map (fun i : Nat => V.int (Bk.early 2 1 6 (i : Nat))) = ([0, 0, 0, 6, 12, 18] : List Int).map V.int := by rfl
      rw [e6] at hD
      walk_at "gm"
      rename_i l6 H4 n4 s4 h4
      refine go_eqInts (ns := [0, 0, 0, 6, 12, 18]) (ms := [0, 0, 0, 6, 12, 18]) (.of (s4 _ _ hD)) (.of h4) ?_
      refine ⟨_, rfl, ?_⟩
      rw [decide_eq_true rfl]
      walk_at "gm"
      refine go_callO ?_
      walk_at "gm"
      refine callO_x ?_
      walk_at "gm"
      have hz4 := s4 _ _ (s3 _ _ hz)
      refine ⟨dz, _, hz4, x, .int 12, 2, 1, 6, rfl, ⟨dz, hz4⟩, bv26, .inl ⟨12, rfl, by decide, ?_⟩⟩
      rw [show Bk.bnd 2 1 6 12 = 4 by decide +kernel]
      walk_at "gm"
      exact k _
end
end K50
open PySem PySem.W PySem.Calls PyProof.Rows
theorem PySem.Challenge.cw_creditturns_k50_buckets_made_holds : PySem.Challenge.rw_creditturns_k50_buckets_made.Holds := by
  w_on; o_law
  refine HandSHeadRun.head_imp (r := OpenLaw.row PySem.Challenge.rw_creditturns_k50_buckets_made) (q := K50.q) (H := K50.hk) (ob := K50.ob) (M := 20000) (loose := K50.loose) (d := HandSHeadRun.topDef (OpenLaw.row PySem.Challenge.rw_creditturns_k50_buckets_made).prog 56) (kwd := []) K50.ob_eq
    K50.run (by kernel_rfl) (by kernel_rfl) (by kernel_rfl) (by rfl) (by first | assumption | decide +kernel) (by decide +kernel) ⟨rfl, rfl, rfl, rfl, rfl, by decide +kernel⟩ ?hw ?hc
  case hw => w_witness2
  case hc =>
    refine CT.walk_ofGE (l := PySem.Challenge.rw_creditturns_k50_buckets_made) (n := 63) (k := 8) (x := "_law_script") (CX := fun _ => L2.CX0) rfl (by decide) (by kernel_rfl) ⟨rfl, by decide, by decide⟩ ?F (fun _ _ _ _ _ z => z)
    intro w mg fa h Y G hmg0
    obtain ⟨K, KX, c⟩ := Y
    have S : CT.HD K50.sys K mg := CT.HD.of KX G c
    have hmg : mg ("law" : PySem.Str) = some (.ref fa) := by
      have e : (HandSHeadRun.topDef (OpenLaw.row PySem.Challenge.rw_creditturns_k50_buckets_made).prog 56).name = ("law" : PySem.Str) := by kernel_rfl
      rw [← e]
      exact hmg0
    have e := hmg.symm.trans (K50.g_law S)
    cases e
    obtain ⟨t1, t2, t3⟩ := CT.tabs_of KX c
    refine ⟨K, KX, CT.fdAt K (He.ga K "law"), _, K50.spLaw K, t1, t2, t3, fun s v => (L2.FunD.bindsA (ps := ["_law_script"]) (K50.d_law S) (fun _ _ _ _ _ _ us hl => match us, hl with | [_], _ => rfl)) s [v] rfl, fun H a ns hl _ hH hS => ⟨a, ns, rfl, hS, K50.tabs_two (hH _ (.head _)) (hH _ (.tail _ (.head _))), fun _ => rfl⟩, fun base _ _ TB => (K50.law_ok S (TB _ (.tail _ (.head _))) (TB _ (.head _)))⟩
