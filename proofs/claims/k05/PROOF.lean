import PyProof.Rows.All
import Wide.All
import OpenK.AllK
import Wide.FinOn
import HandS.ForMost
import HandS.IsInst
import HandS.Defaults
import HandS.MakeKw
import HandS.Star
import HandS.OwnEq
import HandS.Property
import HandS.ClsMeth
import HandS.FStr
import HandS.Walk
import HandS.Wide
import HandS.Evl
import HandS.Zip
import HandS.Small
import PySem.Challenge.RW_ownchute_k05_trackers_made
set_option Elab.async false
set_option maxRecDepth 100000
set_option maxHeartbeats 4000000
set_option linter.unusedVariables false
namespace Own
open PySem L2 PySem.Spec PyProof.Rows
/-! ### f(*e, k = v, ..): the star's items are read behind the keywords -/
section
variable {M : Model} {A : Around} {E : Value → Shared → Prop} {s : Shared}
theorem lone_kw {f : Value} {x : Sem Value} {pos : Pos} {kws : List (Option Str × Sem Value)} {Q : Args → Shared → Prop} (hall : kws.all (·.1.isSome) = true)
    (h : wpAny M A x (fun v s₁ => wpAny M A (evalAll (kws.map (·.2))) (fun ks s₂ => PySem.W.StarOf M A E v (fun vs s₃ => Q ⟨vs, (kws.filterMap (·.1)).zip ks⟩ s₃) s₂) E s₁) E s) :
    wpAny M A (evalArgs f true [(true, (do let v ← x; standAt pos; pure v))] kws) Q E s := by
  unfold evalArgs
  first
    | refine wpAny_bind (wpAny_bind (wpAny_mono h (fun v s₁ h₁ => wpAny_bind (wpAny_standAt (wpAny_pure ?_))) fun _ _ x => x))
    | refine wpAny_bind (wpAny_bind (wpAny_bind (wpAny_mono h (fun v s₁ h₁ => wpAny_bind (wpAny_standAt (wpAny_pure (wpAny_pure ?_)))) fun _ _ x => x)))
  refine wpAny_holding ?_
  simp only [hall, if_true]
  refine wpAny_bind (wpAny_mono h₁ (fun ks s₂ h₂ => ?_) fun _ _ x => x)
  unfold PySem.W.StarOf at h₂
  refine wpAny_bind (wpAny_bind (wpAny_mono h₂ (fun b s₃ h₃ => ?_) fun _ _ x => x))
  obtain ⟨rfl, h₃⟩ := h₃
  rw [if_neg Bool.false_ne_true]
  exact wpAny_holding (wpAny_mono h₃ (fun vs s₄ h₄ => wpAny_pure h₄) fun _ _ x => x)
/-- the call's node with a star and keywords -/
theorem call_starkw {f : Value} {pos : Pos} {Q : Value → Shared → Prop} {K : PySem.W.Frag} {args : List (Bool × Sem Value)} {kws : List (Option Str × Sem Value)} (hst : args.any (·.1) = true) (hk : PySem.W.keepIn K f = true)
    (h : wpAny M A (evalArgs f true args kws) (fun a s₁ => K.In s₁.heap ∧ wpAny M A (call f a.pos a.kw) Q E s₁) E s) : wpAny M A (callWith pos f [] args kws) Q E s := by
  unfold callWith
  refine wpAny_bind (wpAny_holding (wpAny_mono h (fun a s₁ h₁ => wpAny_bind (wpAny_standAt ?_)) fun _ _ x => x))
  obtain ⟨k, hk', L⟩ := PySem.W.looks_keep hk h₁.1
  simp only [hst, Bool.true_or]
  refine wpAny_bind (L.here ?_)
  have tail : ∀ {t : Sem Value}, wpAny M A t Q E s₁ → wpAny M A (t >>= fun r => holding [r] point >>= fun _ => pure r) Q E s₁ :=
    fun ht => wpAny_bind (wpAny_mono ht (fun r s₂ hr => wpAny_bind (wpAny_holding (wpAny_point (wpAny_pure hr)))) fun _ _ x => x)
  have marked (mk : Value) : wpAny M A (callMarked mk f ([] ++ a.pos) a.kw) Q E s₁ := by unfold callMarked; exact Calls.wpAny_keep h₁.2
  rcases hk' with rfl | rfl <;> dsimp only <;> first | exact tail (marked _) | exact tail (wpAny_operating h₁.2)
end
/-! ### def f(self, *v, k = d, ..): what is bound -/
/-- t looks the names up in the dict at D, one behind another, and goes on as r -/
def KwCh {α : Type} (D : Addr) : List (Str × Value) → Sem α → Sem α → Prop
  | [], t, r => t = r
  | q :: l, t, r => ∃ (β γ : Type) (k1 : Option Value → Sem β) (k2 : β → Sem γ) (k3 : γ → Sem α) (a : β), t = ((nsGet D q.1 >>= k1) >>= k2) >>= k3 ∧ k1 (some q.2) = pure a ∧ KwCh D l (k2 a >>= k3) r
theorem KwCh.run {α : Type} {K : PySem.W.Frag} {M : Model} {A : Around} {E : Value → Shared → Prop} {Q : α → Shared → Prop} {D : Addr} : ∀ {l : List (Str × Value)} {t r : Sem α} {s : Shared}, K.In s.heap → (∀ q ∈ l, PySem.W.nsIn K D q.1 = some (some q.2)) → KwCh D l t r → wpAny M A r Q E s → wpAny M A t Q E s
  | [], t, r, s, _, _, e, h => by rw [show t = r from e]; exact h
  | q :: l, t, r, s, X, hl, e, h => by
    obtain ⟨β, γ, k1, k2, k3, a, e1, e2, e3⟩ := e
    have l1 : PySem.W.Looks M s.heap (nsGet D q.1 >>= k1) a := (PySem.W.looks_nsIn X (hl q (List.mem_cons_self ..))).andThen (PySem.W.Looks.of_pure e2)
    rw [e1, bind_assoc]
    exact wpAny_bind (l1.here (KwCh.run X (fun p hp => hl p (List.mem_cons_of_mem _ hp)) e3 h))
/-- an own class's __init__(self, *v, k = .., ..), called with keywords named ks: what it promises by its values -/
def FnSt (P : Program) (w : World) (K : PySem.W.Frag) (mg : Str → Option Value) (base : Heap) (CX : CXT) (k : Nat) (f : Addr) (ks : List Str) (gV : List V → List V) (sp : Sp) : Prop :=
  ∀ (A : Around) (outer : List Env) (s : Shared) (H : Hp) (a : Value) (va : V) (us : List Value) (vs : List V) (ws : List Value) (zs : List V) (Q : VK) (E : XK), Room k A → Env0 P w K mg base A outer s H → RelV va a → Vals vs us → Vals zs ws → zs.length = ks.length → vs.length ≤ sizeLine →
    (∀ p, H p = none → sp (va :: (gV zs ++ [.ref p])) (upd H p (.tup vs)) Q E) → codeAny (model P w) A (.call (.ref f) ⟨a :: us, ks.zip ws⟩) (CR CX outer P w H s Q E) s
section
variable {CX : CXT} {P : Program} {w : World} {K : PySem.W.Frag} {mg : Str → Option Value} {base : Heap} {k : Nat} {f D : Addr} {name qual pv p0 : Str} {params : Arguments} {body : List Stmt} {scope : Scope} {dV doc pm cdv ct oc : Value} {an od : Option Addr} {osl : Array (Option Value)} {N ps ks : List Str} {sp : Sp}
theorem fn_starKwo {ms : List (Str × V)} {g : List Value → List Value → List Value} {gV : List V → List V → List V} (lk : K.lookup f = some ⟨oc, od, .func (PySem.W.fnOf name qual params body scope dV (.ref D) doc pm an cdv ct), osl⟩) (hcd : PySem.W.codeIn K cdv qual = true) (S : FnScope N (p0 :: (ps ++ [pv])) scope) (hCX : StX.CXUp CX)
    (hms : ∀ q ∈ ms, ∃ u, PySem.W.nsIn K D q.1 = some (some u) ∧ RelV q.2 u) (hg : ∀ {zs : List V} {ws mz mv}, Vals zs ws → Vals mz mv → Vals (gV zs mz) (g ws mv)) (hgl : ∀ (ws mv : List Value), ws.length = ks.length → mv.length = ms.length → (g ws mv).length = ps.length)
    (hb : ∀ (a : Value) (us ws mv : List Value), ws.length = ks.length → mv.length = ms.length → KwCh D ((ms.map (·.1)).zip mv) (bindArgs (PySem.W.fnOf name qual params body scope dV (.ref D) doc pm an cdv ct) ⟨a :: us, ks.zip ws⟩) (newTuple us >>= fun t => pure ((p0, a) :: (ps.zip (g ws mv) ++ [(pv, t)]))))
    (hbody : ∀ (A : Around) (outer : List Env) (s : Shared) (H : Hp) (vs : List V) (Q : VK) (E : XK), Room k (A.deeper (envOfC qual scope s.heap.objs.size f cdv)) → sp vs H Q E →
      ∃ t, PSs (cxOf CX P w K mg base N qual scope f cdv A outer s H E) body t ∧ t { nx := fun _ H' => Q .non H', rt := Q } (start N vs) H) :
    FnSt P w K mg base CX (k + 1) f ks (fun zs => gV zs (ms.map (·.2))) sp := by
  intro A outer s H a va us vs ws zs Q E hr e0 ra r rz hzl hz hq
  obtain ⟨mv, hml, rm, hmk⟩ := kwd_vals (K := K) (D := D) hms
  have hn : H s.heap.objs.size = Option.none := e0.hok.fresh (Nat.le_refl _)
  have KX : K.In s.heap := e0.mod.kin.keeps fun b o e => (e0.bs b o e).1
  have hl2 : us.length ≤ sizeLine := by rw [← r.length]; exact hz
  have hwl : ws.length = ks.length := by rw [← rz.length]; exact hzl
  have rg := hg rz rm
  have gl := hgl ws mv hwl hml
  refine StX.run_bnd (ps := p0 :: (ps ++ [pv])) lk hcd S hr e0 (G := fun xs H2 => ∃ p, H p = Option.none ∧ xs = va :: (gV zs (ms.map (·.2)) ++ [V.ref p]) ∧ H2 = upd H p (.tup vs)) (fun A' Ex Q' h => ?_) fun s2 H2 xs ⟨p, hp, ex, eH⟩ hr' => ?_
  · refine (hb a us ws mv hwl hml).run KX hmk ?_
    refine wpAny_bind (wpAny_newTuple (wpAny_pure ?_) hl2)
    have new : ObjOk P w (upd H s.heap.objs.size (.tup vs)) (s.heap.push ({ cls := .type "tuple", data := .seq us.toArray } : Obj)) s.heap.objs.size (.tup vs) := ⟨hz, us, r, ⟨_, Heap.get?_push_size _ rfl, rfl, _, rfl⟩⟩
    have un := StX.un_laid (fs := frs outer) (s := s) (o := ({ cls := .type "tuple", data := .seq us.toArray } : Obj)) (u := .tup vs) hn
    have z := h _ _ (va :: (gV zs (ms.map (·.2)) ++ [V.ref s.heap.objs.size])) (a :: (g ws mv ++ [Value.ref s.heap.objs.size])) (StX.env0_laid e0 new) un rfl (fun e s' => hCX outer s H _ _ E e s' un (fun b o q => Heap.get?_push_of_some _ q) rfl) (.cons ra (rg.append (.cons rfl .nil)))
      (by have q := rg.length; simp only [List.length_cons, List.length_append, List.length_nil]; omega) ⟨_, hn, rfl, rfl⟩
    have e : (p0 :: (ps ++ [pv])).zip (a :: (g ws mv ++ [Value.ref s.heap.objs.size])) = (p0, a) :: (ps.zip (g ws mv) ++ [(pv, Value.ref s.heap.objs.size)]) := by
      rw [List.zip_cons_cons, List.zip_append gl.symm]
      rfl
    rw [e] at z
    exact z
  · subst ex eH
    exact hbody A outer s2 _ _ Q E hr' (hq p hp)
end

/-- C(.., k = v, ..) and C(*e, k = v, ..), C's __init__ with *v: a new instance, its dict, the tuple of what is left over -/
def tMkS (C : Addr) (sp : Sp) (gV : List V → List V) (E : XK) : List V → List V → Hp → VK → Prop := fun vs zs H Q => vs.length ≤ 1000 ∧ ∀ x dx p, H x = none → H dx = none → dx ≠ x → H p = none → p ≠ x → p ≠ dx → sp (.ref x :: (gV zs ++ [.ref p])) (upd (upd (upd H dx (.own x)) x (.ins C dx [])) p (.tup vs)) (fun v H2 => v = .non ∧ Q (.ref x) H2) E
section
variable {X : Cx} {pins : List (Addr × Obj)} {σ : L2.St} {H : Hp} {s : Shared} {CX : CXT} {k : Nat} {f C : Addr} {ks : List Str} {gV : List V → List V} {sp : Sp} {E : XK} {x : Str} {e : Expr} {es : List Expr} {kws : List Keyword} {te : TE} {t tk : TA} {p sp_ pos : Pos}
theorem run_mkS {Q : VK} {us ws : List Value} {vs zs : List V} (M : Mk X.K C f) (F : FnSt X.prog X.w X.K X.mg X.base CX k f ks gV sp) (hr : Room (k + 1) X.A) (hx : Passes CX X E) (I : Inv X pins σ H s) (r : Vals vs us) (rz : Vals zs ws) (l2 : zs.length = ks.length) (h : tMkS C sp gV E vs zs H Q) :
    wpAny (model X.prog X.w) X.A (call (.ref C) us (ks.zip ws)) (EP X pins σ Q) X.xe s := by
  obtain ⟨hl, h⟩ := h
  have h1 := I.hok.fresh (Nat.le_succ s.heap.objs.size)
  have h2 := I.hok.fresh (Nat.le_refl s.heap.objs.size)
  have I2 := Inv.made (C := C) I
  have hz : vs.length ≤ sizeLine := Nat.le_trans hl (by decide)
  have key : ∀ p, (upd (upd H s.heap.objs.size (.own (s.heap.objs.size + 1))) (s.heap.objs.size + 1) (.ins C s.heap.objs.size [])) p = none → sp (.ref (s.heap.objs.size + 1) :: (gV zs ++ [.ref p])) (upd (upd (upd H s.heap.objs.size (.own (s.heap.objs.size + 1))) (s.heap.objs.size + 1) (.ins C s.heap.objs.size [])) p (.tup vs)) (fun v H2 => v = .non ∧ Q (.ref (s.heap.objs.size + 1)) H2) E := fun p hp => by
    by_cases e1 : p = s.heap.objs.size + 1
    · rw [e1, upd_same] at hp; cases hp
    · rw [upd_ne e1] at hp
      by_cases e2 : p = s.heap.objs.size
      · rw [e2, upd_same] at hp; cases hp
      · rw [upd_ne e2] at hp
        exact h (s.heap.objs.size + 1) s.heap.objs.size p h1 h2 (Nat.ne_of_lt (Nat.lt_succ_self _)) hp e1 e2
  refine wpAny_call (make_map (f := f) I.kIn M.makes M.init (beq_iff_eq.mp M.fn) (codeAny_mono (F _ X.stack _ _ (Value.ref (s.heap.objs.size + 1)) (V.ref (s.heap.objs.size + 1)) us vs ws zs (fun v H2 => v = .non ∧ Q (.ref (s.heap.objs.size + 1)) H2) E (hr.make C us (ks.zip ws)) (I2.env0.make C us (ks.zip ws)) rfl r rz l2 hz key) fun r s' hq' => ?_))
  · cases r with
    | error e => exact hx pins σ _ _ e s' I2 hq'
    | ok fl =>
      cases fl with
      | ret u =>
        obtain ⟨v, H', I3, rv, ev, q3⟩ := I2.after hq'
        subst ev
        exact ⟨rv, ⟨V.ref (s.heap.objs.size + 1), H', I3, rfl, q3⟩⟩
      | next => exact False.elim hq'
      | brk => exact False.elim hq'
      | cont => exact False.elim hq'
theorem pe_mkS (M : Mk X.K C f) (F : FnSt X.prog X.w X.K X.mg X.base CX k f ks gV sp) (hr : Room (k + 1) X.A) (hg : Gl X x) (hm : X.mg x = some (.ref C)) (hx : Passes CX X E) (ha : PA X (e :: es) t) (hkw : PK X kws tk) (hall : (backToKw pos (keywordEach kws X.env)).all (·.1.isSome) = true := by rfl)
    (hks : (backToKw pos (keywordEach kws X.env)).filterMap (·.1) = ks := by rfl) (hdb : (x == ("__debug__" : Str)) = false := by decide) (he : starEach (e :: es) X.env = (false, eval e X.env) :: starEach es X.env := by rfl)
    (hpl : ((backTo pos (starEach (e :: es) X.env)).any (·.1) || (backToKw pos (keywordEach kws X.env)).any (·.1.isNone)) = false := by rfl) :
    PE X (.Call (.Name x p) (e :: es) kws pos) (fun σ H Q => t σ H fun vs H1 => tk σ H1 fun zs H2 => zs.length = ks.length ∧ tMkS C sp gV E vs zs H2 Q) := by
  refine ⟨fun pins s σ H Q I h => wpAny_Call_Name_kw (ld_glob I hg hm (PySem.W.callWith_KW (h₀ := X.base) I.ok.mod.kin M.kp hall (thn (ha.run pos pins s σ H _ I h) fun us s1 ⟨vs, H1, I1, r, q⟩ => ?_) hpl he) hdb)⟩
  refine thn (hkw.run pos pins s1 σ H1 _ I1 q) fun ws s2 ⟨zs, H2, I2, rz, l2, q2⟩ => ⟨I2.kIn, ?_⟩
  rw [hks]
  exact run_mkS M F hr hx I2 r rz l2 q2
/-- C(e, ..) -/
theorem pe_mkSp (M : Mk X.K C f) (F : FnSt X.prog X.w X.K X.mg X.base CX k f [] gV sp) (hr : Room (k + 1) X.A) (hg : Gl X x) (hm : X.mg x = some (.ref C)) (hx : Passes CX X E) (ha : PA X (e :: es) t) (hdb : (x == ("__debug__" : Str)) = false := by decide)
    (he : starEach (e :: es) X.env = (false, eval e X.env) :: starEach es X.env := by rfl) (hpl : (backTo pos (starEach es X.env)).any (·.1) = false := by rfl) : PE X (.Call (.Name x p) (e :: es) [] pos) (fun σ H Q => t σ H fun vs H1 => tMkS C sp gV E vs [] H1 Q) := by
  refine ⟨fun pins s σ H Q I h => wpAny_Call_Name_kw (ld_glob I hg hm (PySem.W.callWith_K (h₀ := X.base) I.ok.mod.kin M.kp (thn (ha.run pos pins s σ H _ I h) fun us s1 ⟨vs, H1, I1, r, q⟩ => ⟨I1.kIn, ?_⟩) he hpl) hdb)⟩
  exact run_mkS (ws := []) M F hr hx I1 r .nil rfl q
/-- C(*e, k = v, ..) -/
theorem pe_mkSs (M : Mk X.K C f) (F : FnSt X.prog X.w X.K X.mg X.base CX k f ks gV sp) (hr : Room (k + 1) X.A) (hg : Gl X x) (hm : X.mg x = some (.ref C)) (hx : Passes CX X E) (he : PE X e te) (hkw : PK X kws tk) (hall : (backToKw pos (keywordEach kws X.env)).all (·.1.isSome) = true := by rfl)
    (hks : (backToKw pos (keywordEach kws X.env)).filterMap (·.1) = ks := by rfl) (hdb : (x == ("__debug__" : Str)) = false := by decide) (hst : starEach [.Starred e sp_] X.env = [(true, eval e X.env)] := by rfl) :
    PE X (.Call (.Name x p) [.Starred e sp_] kws pos) (fun σ H Q => te σ H fun y H1 => tk σ H1 fun zs H2 => ∃ a vs, y = .ref a ∧ (SqT X.K H2 a vs ∨ SqL X.K H2 a vs) ∧ zs.length = ks.length ∧ tMkS C sp gV E vs zs H2 Q) := by
  refine ⟨fun pins s σ H Q I h => wpAny_Call_Name_kw (ld_glob I hg hm ?_ hdb)⟩
  rw [hst]
  refine call_starkw rfl M.kp (lone_kw hall (thn (he.run pins s σ H _ I h) fun v s1 ⟨y, H1, I1, ry, q⟩ => thn (hkw.run pos pins s1 σ H1 _ I1 q) fun ws s2 ⟨zs, H2, I2, rz, a, vs, ey, hv, l2, q2⟩ => ?_))
  subst ey
  obtain rfl : v = Value.ref a := ry
  refine StX.star_any I2 hv fun us s3 I3 rv => ⟨I3.kIn, ?_⟩
  rw [hks]
  exact run_mkS M F hr hx I3 rv rz l2 q2
end
/-- a == b, a an instance with an own == that hands back a bool -/
def rOwn (K : PySem.W.Frag) (C : Addr) (sp : Sp) : R2 := fun x y H Q => ∃ (a dx : Addr) (fs : List (Str × V)) (tb : Value), x = .ref a ∧ H a = some (.ins C dx fs) ∧ TyX K H y tb ∧ PySem.W.notFirst K C tb = true ∧ sp [.ref a, y] H (fun v H' => (∃ b, v = .bl b) ∧ Q v H') (fun _ _ _ => False)
theorem op_own {X : Cx} {CX : CXT} {n : Nat} {C f : Addr} {fd : FuncData} {ps : List Str} {sp : Sp} (F : FnOk X.prog X.w X.K X.mg X.base CX n f fd ps sp) (hr : Room n X.A) (hs : PySem.W.findIn X.K (.ref C) "__eq__" = some (some (.ref f))) (hf : PySem.W.isFn X.K (.ref f) = true) (hb : Binds X.K fd ps []) (hx : Passes CX X (fun _ _ _ => False)) :
    OpR X (compareOp .Eq) (rOwn X.K C sp) := by
  intro pins s σ H x y v u Q I rx ry h
  obtain ⟨a, dx, fs, tb, rfl, ha, ty, nf, q⟩ := h
  cases rx
  show wpAny (model X.prog X.w) X.A (richCompare .Eq (.ref a) u) (EP X pins σ Q) X.xe s
  obtain ⟨mA, J, _⟩ := ins_get I.hok ha
  obtain ⟨od, J, _⟩ := J.look
  obtain ⟨Pz, Z, pz, _⟩ := kit_of I ry ty
  obtain ⟨m, hF⟩ := I.fr
  refine PySem.W.cmp_K (op := .Eq) hr.units0 hF I.ok.mod.kin J (Z.ty _ _ I.kIn pz) nf hs hf ?_
  have r2 : Vals [V.ref a, y] [Value.ref a, u] := .cons rfl (.cons ry .nil)
  refine thn (run_fn (dvs := []) (ds := []) F hr hb .nil hx I r2 q) fun w s' ⟨z, H', I', rz, ⟨b, ez⟩, qz⟩ => ?_
  subst ez
  obtain rfl : w = Value.bool b := rz
  exact ⟨.bl b, H', I', rfl, qz⟩
end Own

namespace Own
open PySem L2
def topT (i : Nat) : Stmt := PySem.Challenge.pw_ownchute_k05_trackers_made.main.body.getD i (.Pass ⟨0, 0, 0, 0⟩)
abbrev sNum : Stmt := topT 1
abbrev sCkRooms : Stmt := topT 11
abbrev sCkNum : Stmt := topT 12
abbrev sCkWord : Stmt := topT 13
/-- a tuple of the top -/
def KT (K : PySem.W.Frag) (a : Addr) (xs : List V) : Prop := ∃ (o : Obj) (its : Array Value) (n : Nat), K.lookup a = some o ∧ o.cls = .type "tuple" ∧ o.data = .seq its n ∧ its.size ≤ sizeLine ∧ Vals xs its.toList
def numB : PyData → Int → Int → Bool
  | .int n, lo, hi => decide (lo ≤ n) && decide (n ≤ hi)
  | _, _, _ => false
def spNum (K : PySem.W.Frag) : Sp := fun vs H Q _ => ∃ (n lo hi : Int), vs = [.int n, .int lo, .int hi] ∧ Q (.bl (decide (lo ≤ n) && decide (n ≤ hi))) H
def spCkNum : Sp := fun vs H Q _ => ∃ (n lo hi : Int), vs = [.int n, .int lo, .int hi] ∧ lo ≤ n ∧ n ≤ hi ∧ Q .non H
def spCkWord (K : PySem.W.Frag) : Sp := fun vs H Q _ => ∃ (z : Str) (t : Addr) (ws : List V), vs = [.str z, .ref t] ∧ SqT K H t ws ∧ ws.all flatV = true ∧ inV (.str z) ws = true ∧ Q .non H
def spCkRooms (K : PySem.W.Frag) : Sp := fun vs H Q _ => ∃ (t : Addr) (rs : List Int) (most : Int), vs = [.ref t, .int most] ∧ SqT K H t (rs.map V.int) ∧ 1 ≤ rs.length ∧ rs.length ≤ 3 ∧ (∀ r, r ∈ rs → 1 ≤ r ∧ r ≤ most) ∧ Q .non H
section
variable {P : Program} {w : World} {K : PySem.W.Frag} {mg : Str → Option Value} {base : Heap}
theorem scNum : FnScope ["value", "least", "most"] ["value", "least", "most"] (defScope sNum) := ⟨rfl, rfl, rfl, by decide +kernel, rfl, by decide +kernel, by decide +kernel⟩
theorem ok_num {f : Addr} {fd : FuncData} (F : Fun K "is_number" "is_number" sNum f fd) (zI : mg "isinstance" = none) (zB : mg "bool" = none) (zN : mg "int" = none) : FnOk P w K mg base CX0 1 f fd ["value", "least", "most"] (spNum K) := by
  refine F.ok scNum (fun vs H Q E h => ?_) (fun cdv A outer s H vs Q E hr h => ?_)
  · obtain ⟨n, lo, hi, rfl, _⟩ := h
    rfl
  · obtain ⟨n, lo, hi, rfl, k⟩ := h
    refine ⟨_, pss_cons (ps_if (PW.pt (pw_or (pt_val (pe_callB call_isi (by rfl) zI (by decide +kernel) (pa_cons (pv 0) (pa_cons (pe_bltn (v := .ty "bool") (by rfl) zB (by decide +kernel) rfl) pa_nil)))) (pw_or1 (pt_not (pt_val (pe_callB call_isi (by rfl) zI (by decide +kernel) (pa_cons (pv 0) (pa_cons (pe_bltn (v := .ty "int") (by rfl) zN (by decide +kernel) rfl) pa_nil))))))))
      (pss_one (ps_ret pe_bl)) pss_nil) (pss_one (ps_ret (pe_chain op_le op_le (pv 1) (pv 0) (pv 2)))), ?_⟩
    refine ⟨_, rfl, _, _, .type "int", .type "bool", false, rfl, .ty _, .base (.int n), kit_ty (by decide +kernel), false, rfl, iteF ?_⟩
    refine ⟨_, rfl, _, _, .type "int", .type "int", true, rfl, .ty _, .base (.int n), kit_ty (by decide +kernel), true, rfl, iteF ?_⟩
    refine ⟨_, rfl, _, rfl, _, _, rfl, rfl, _, rfl, ite2 (fun c => ⟨_, rfl, _, _, rfl, rfl, ?_⟩) (fun c => ?_)⟩
    · rw [c] at k; exact k
    · rw [Bool.eq_false_iff.mpr c] at k; exact k
theorem scCkNum : FnScope ["value", "least", "most"] ["value", "least", "most"] (defScope sCkNum) := ⟨rfl, rfl, rfl, by decide +kernel, rfl, by decide +kernel, by decide +kernel⟩
theorem ok_cknum {f fN : Addr} {fd fdN : FuncData} (F : Fun K "check_number" "check_number" sCkNum f fd) (GN : FnOk P w K mg base CX0 1 fN fdN ["value", "least", "most"] (spNum K)) (mN : mg "is_number" = some (.ref fN)) (kN : PySem.W.keepIn K (.ref fN) = true) (bN : Binds K fdN ["value", "least", "most"] []) :
    FnOk P w K mg base CX0 2 f fd ["value", "least", "most"] spCkNum := by
  refine F.ok scCkNum (fun vs H Q E h => ?_) (fun cdv A outer s H vs Q E hr h => ?_)
  · obtain ⟨n, lo, hi, rfl, _⟩ := h
    rfl
  · obtain ⟨n, lo, hi, rfl, h1, h2, k⟩ := h
    refine ⟨_, pss_one (ps_if (pt_not (pt_val (pe_call GN hr rfl mN kN bN .nil pass0 (pa_cons (pv 0) (pa_cons (pv 1) (pa_cons (pv 2) pa_nil)))))) (pss_one ps_never) pss_nil), ?_⟩
    refine ⟨_, rfl, _, rfl, _, rfl, n, lo, hi, rfl, _, rfl, ?_⟩
    rw [decide_eq_true h1, decide_eq_true h2]
    exact iteF k
theorem scCkWord : FnScope ["value", "words"] ["value", "words"] (defScope sCkWord) := ⟨rfl, rfl, rfl, by decide +kernel, rfl, by decide +kernel, by decide +kernel⟩
theorem ok_ckword {f : Addr} {fd : FuncData} (F : Fun K "check_word" "check_word" sCkWord f fd) : FnOk P w K mg base CX0 1 f fd ["value", "words"] (spCkWord K) := by
  refine F.ok scCkWord (fun vs H Q E h => ?_) (fun cdv A outer s H vs Q E hr h => ?_)
  · obtain ⟨z, t, ws, rfl, _⟩ := h
    rfl
  · obtain ⟨z, t, ws, rfl, ht, hf, hi, k⟩ := h
    refine ⟨_, pss_one (ps_if (pt_cmpR op_notIn_seq (pv 0) (pv 1) (by rfl)) (pss_one ps_never) pss_nil), ?_⟩
    refine ⟨_, rfl, _, rfl, t, ws, rfl, .inr ht, rfl, hf, _, rfl, ?_⟩
    show if (!inV (.str z) ws) = true then _ else _
    rw [hi]
    exact iteF k
theorem scCkRooms : FnScope ["rooms", "most", "room"] ["rooms", "most"] (defScope sCkRooms) := ⟨rfl, rfl, rfl, by decide +kernel, rfl, by decide +kernel, by decide +kernel⟩
theorem ok_ckrooms {f fN : Addr} {fd fdN : FuncData} {tk : Tok} (F : Fun K "check_rooms" "check_rooms" sCkRooms f fd) (GN : FnOk P w K mg base CX0 2 fN fdN ["value", "least", "most"] spCkNum) (mN : mg "check_number" = some (.ref fN)) (kN : PySem.W.keepIn K (.ref fN) = true) (bN : Binds K fdN ["value", "least", "most"] []) (zL : mg "len" = none) (mB : mg "MOST_BELTS" = some (.int 3 tk)) :
    FnOk P w K mg base CX0 3 f fd ["rooms", "most"] (spCkRooms K) := by
  refine F.ok scCkRooms (fun vs H Q E h => ?_) (fun cdv A outer s H vs Q E hr h => ?_)
  · obtain ⟨t, rs, most, rfl, _⟩ := h
    rfl
  · obtain ⟨t, rs, most, rfl, ht, h1, h3, hall, k⟩ := h
    refine ⟨_, pss_cons (ps_if (pt_not (pt_chain op_le op_le pe_int (pe_callB call_len_seq (by rfl) zL PySem.boot_len (pa_cons (pv 0) pa_nil)) (pe_glob (v := .int 3) (by rfl) mB ⟨_, rfl⟩))) (pss_one ps_never) pss_nil)
      (pss_one (ps_for PassesOwn.never rfl (pi_tup (pv 0)) (pg_name (i := 2) scCkRooms.nd rfl (Or.inl rfl)) (pss_one (ps_expr (pe_call GN hr rfl mN kN bN .nil pass0 (pa_cons (pv 2) (pa_cons pe_int (pa_cons (pv 1) pa_nil)))))))), ?_⟩
    have hl : (rs.map V.int).length = rs.length := List.length_map _
    refine ⟨_, rfl, t, _, rfl, .inr ht, _, _, rfl, rfl, _, rfl, ?_⟩
    rw [show decide ((1 : Int) ≤ ((rs.map V.int).length : Nat)) = true from decide_eq_true (by rw [hl]; omega)]
    refine iteT ⟨_, _, rfl, rfl, _, rfl, ?_⟩
    rw [show decide ((((rs.map V.int).length : Nat) : Int) ≤ 3) = true from decide_eq_true (by rw [hl]; omega)]
    refine iteF ?_
    refine ⟨_, rfl, t, rfl, ⟨_, ht⟩, for_tup (K := K) (a := t) (xs := rs.map V.int) (fun i σ H' => ∃ v : Option V, σ = [some (.ref t), some (.int most), v] ∧ H' = H) ⟨_, rfl, rfl⟩ ?_ ?_ ?_⟩
    · rintro i σ H' _ ⟨v, rfl, rfl⟩
      exact ht
    · rintro i y σ H' hi ⟨v, rfl, rfl⟩
      obtain ⟨u, hu, rfl⟩ : ∃ u, rs[i]? = some u ∧ y = V.int u := by
        rw [List.getElem?_map] at hi
        cases e : rs[i]? with
        | none => rw [e] at hi; cases hi
        | some u => rw [e] at hi; exact ⟨u, rfl, (Option.some.inj hi).symm⟩
      obtain ⟨q1, q2⟩ := hall u (List.mem_of_getElem? hu)
      exact ⟨_, rfl, _, rfl, u, 1, most, rfl, q1, q2, _, rfl, rfl⟩
    · rintro σ H' ⟨v, rfl, rfl⟩
      exact k
end
end Own

namespace Own
open PySem L2 ClX
abbrev sTI : Stmt := inClass (topT 21) 1
/-- the attributes of a tracker -/
def trf (t : Addr) (s : Int) (e st p : Str) : List (Str × V) := putF "_pause" (.str p) (putF "_strange" (.str st) (putF "_empty" (.str e) (putF "_seek" (.int s) (putF "_rooms" (.ref t) []))))
def emptyW : List V := [.str "blank", .str "none"]
def strangeW : List V := [.str "first", .str "none"]
def pauseW : List V := [.str "clear", .str "keep"]
/-- values that a tracker can have -/
structure TrOk (rs : List Int) (s : Int) (e st p : Str) : Prop where
  n1 : 1 ≤ rs.length
  n3 : rs.length ≤ 3
  rr : ∀ r, r ∈ rs → 1 ≤ r ∧ r ≤ 4
  s0 : 0 ≤ s
  s3 : s ≤ 3
  e : inV (.str e) emptyW = true
  st : inV (.str st) strangeW = true
  p : inV (.str p) pauseW = true
/-- a tracker stands at a -/
def TrAt (K : PySem.W.Frag) (C : Addr) (H : Hp) (a : Addr) (rs : List Int) (s : Int) (e st p : Str) : Prop := ∃ dx t, H a = some (.ins C dx (trf t s e st p)) ∧ SqT K H t (rs.map V.int) ∧ TrOk rs s e st p
def spTrI (K : PySem.W.Frag) (C : Addr) : Sp := fun vs H Q _ => ∃ (x dx t : Addr) (rs : List Int) (s : Int) (e st p : Str), vs = [.ref x, .int s, .str e, .str st, .str p, .ref t] ∧ H x = some (.ins C dx []) ∧ SqT K H t (rs.map V.int) ∧ TrOk rs s e st p ∧
  ∀ H' : Hp, H' x = some (.ins C dx (trf t s e st p)) → (∀ b o, b ≠ x → H b = some o → H' b = some o) → Q .non H'
theorem putF_len {f : Str} {y : V} : ∀ {k : Nat} {fs : List (Str × V)}, fs.length ≤ k → (putF f y fs).length ≤ k + 1
  | k, [], h => by show 1 ≤ k + 1; omega
  | k, (g, z) :: r, h => by
    unfold putF
    split
    · exact Nat.le_succ_of_le h
    · have h' : r.length + 1 ≤ k := h
      have q := putF_len (f := f) (y := y) (k := k - 1) (fs := r) (by omega)
      show (putF f y r).length + 1 ≤ k + 1
      omega
theorem putF_small {f : Str} {y : V} {k : Nat} {fs : List (Str × V)} (h : fs.length ≤ k) (hk : k < 900) : (putF f y fs).length < 1000 := by
  have := putF_len (f := f) (y := y) h
  omega
section
variable {P : Program} {w : World} {K : PySem.W.Frag} {mg : Str → Option Value} {base : Heap}
/-- what the walk asks of the class and the tables -/
structure TrF (K : PySem.W.Frag) (mg : Str → Option Value) (C : Addr) : Prop where
  cl : Cls K C
  at_ : mg "Tracker" = some (.ref C)
  n1 : NoAttr K C "_rooms"
  n2 : NoAttr K C "_seek"
  n3 : NoAttr K C "_empty"
  n4 : NoAttr K C "_strange"
  n5 : NoAttr K C "_pause"
  most : ∃ mc tk, CRead K C mc ∧ CVal K C mc "MOST" (.int 4) (.int 4 tk)
  ms : ∃ tk, mg "MOST_SEEK" = some (.int 3 tk)
  we : ∃ t, mg "EMPTY_WORDS" = some (.ref t) ∧ KT K t emptyW
  ws : ∃ t, mg "STRANGE_WORDS" = some (.ref t) ∧ KT K t strangeW
  wp : ∃ t, mg "PAUSE_WORDS" = some (.ref t) ∧ KT K t pauseW
theorem scTI : FnScope ["self", "seek", "empty", "strange", "pause", "rooms"] ["self", "seek", "empty", "strange", "pause", "rooms"] (defScope sTI) := ⟨rfl, rfl, rfl, by decide +kernel, rfl, by decide +kernel, by decide +kernel⟩
theorem body_ti {CX : CXT} {f fR fN fW C : Addr} {gR gN gW : FuncData} {qual : Str} {cdv : Value} {A : Around} {outer : List Env} {s : Shared} {H : Hp} {vs : List V} {Q : VK} {E : XK} (T : TrF K mg C)
    (GR : FnOk P w K mg base CX0 3 fR gR ["rooms", "most"] (spCkRooms K)) (mR : mg "check_rooms" = some (.ref fR)) (kR : PySem.W.keepIn K (.ref fR) = true) (bR : Binds K gR ["rooms", "most"] [])
    (GN : FnOk P w K mg base CX0 2 fN gN ["value", "least", "most"] spCkNum) (mN : mg "check_number" = some (.ref fN)) (kN : PySem.W.keepIn K (.ref fN) = true) (bN : Binds K gN ["value", "least", "most"] [])
    (GW : FnOk P w K mg base CX0 1 fW gW ["value", "words"] (spCkWord K)) (mW : mg "check_word" = some (.ref fW)) (kW : PySem.W.keepIn K (.ref fW) = true) (bW : Binds K gW ["value", "words"] [])
    (hr : Room 3 (A.deeper (PyProof.Rows.envOfC qual (defScope sTI) s.heap.objs.size f cdv))) (h : spTrI K C vs H Q E) :
    ∃ t, PSs (cxOf CX P w K mg base ["self", "seek", "empty", "strange", "pause", "rooms"] qual (defScope sTI) f cdv A outer s H E) (defBody sTI) t ∧ t { nx := fun _ H' => Q .non H', rt := Q } (start ["self", "seek", "empty", "strange", "pause", "rooms"] vs) H := by
  obtain ⟨x, dx, t, rs, sk, e, st, p, rfl, hx, ht, ok, k⟩ := h
  obtain ⟨mc, tk, cr, cv⟩ := T.most
  obtain ⟨tk2, ms⟩ := T.ms
  obtain ⟨te, me, ke⟩ := T.we
  obtain ⟨ts, mst, kst⟩ := T.ws
  obtain ⟨tp, mp, kp⟩ := T.wp
  have nd := scTI.nd
  refine ⟨_, PSs.nox (pss_cons (ps_expr (pe_call GR hr rfl mR kR bR .nil pass0 (pa_cons (pv 5) (pa_cons (pe_cval (pe_glob (v := .ref C) (by rfl) T.at_ rfl)) pa_nil))))
    (pss_cons (ps_expr (pe_call GN (hr.mono (by decide)) rfl mN kN bN .nil pass0 (pa_cons (pv 1) (pa_cons pe_int (pa_cons (pe_glob (v := .int 3) (by rfl) ms ⟨_, rfl⟩) pa_nil)))))
    (pss_cons (ps_expr (pe_call GW (hr.mono (by decide)) rfl mW kW bW .nil pass0 (pa_cons (pv 2) (pa_cons (pe_glob (v := .ref te) (by rfl) me rfl) pa_nil))))
    (pss_cons (ps_expr (pe_call GW (hr.mono (by decide)) rfl mW kW bW .nil pass0 (pa_cons (pv 3) (pa_cons (pe_glob (v := .ref ts) (by rfl) mst rfl) pa_nil))))
    (pss_cons (ps_expr (pe_call GW (hr.mono (by decide)) rfl mW kW bW .nil pass0 (pa_cons (pv 4) (pa_cons (pe_glob (v := .ref tp) (by rfl) mp rfl) pa_nil))))
    (pss_cons (ps_fld (pv 0) (pv 5) rfl) (pss_cons (ps_fld (pv 0) (pv 1) rfl) (pss_cons (ps_fld (pv 0) (pv 2) rfl) (pss_cons (ps_fld (pv 0) (pv 3) rfl) (pss_one (ps_fld (pv 0) (pv 4) rfl))))))))))), ?_⟩
  refine ⟨_, rfl, C, mc, _, _, rfl, cr, cv, t, rs, 4, rfl, ht, ok.n1, ok.n3, ok.rr, ?_⟩
  refine ⟨_, rfl, sk, 0, 3, rfl, ok.s0, ok.s3, ?_⟩
  refine ⟨_, rfl, e, te, emptyW, rfl, .inr ke, by decide +kernel, ok.e, ?_⟩
  refine ⟨_, rfl, st, ts, strangeW, rfl, .inr kst, by decide +kernel, ok.st, ?_⟩
  refine ⟨_, rfl, p, tp, pauseW, rfl, .inr kp, by decide +kernel, ok.p, ?_⟩
  refine ⟨_, rfl, _, rfl, x, C, dx, _, rfl, hx, T.cl, T.n1, (by show 0 < 1000; decide), ?_⟩
  refine ⟨_, rfl, _, rfl, x, C, dx, _, rfl, upd_same, T.cl, T.n2, putF_small (k := 0) (Nat.le_refl _) (by decide), ?_⟩
  refine ⟨_, rfl, _, rfl, x, C, dx, _, rfl, upd_same, T.cl, T.n3, putF_small (k := 1) (putF_len (k := 0) (Nat.le_refl _)) (by decide), ?_⟩
  refine ⟨_, rfl, _, rfl, x, C, dx, _, rfl, upd_same, T.cl, T.n4, putF_small (k := 2) (putF_len (k := 1) (putF_len (k := 0) (Nat.le_refl _))) (by decide), ?_⟩
  refine ⟨_, rfl, _, rfl, x, C, dx, _, rfl, upd_same, T.cl, T.n5, putF_small (k := 3) (putF_len (k := 2) (putF_len (k := 1) (putF_len (k := 0) (Nat.le_refl _)))) (by decide), ?_⟩
  exact k _ upd_same fun b o hb e => by rw [upd_ne hb, upd_ne hb, upd_ne hb, upd_ne hb, upd_ne hb]; exact e
end
end Own

namespace Own
open PySem L2 ClX
/-- Tracker.__init__ as it stands behind the top, with its keyword-only defaults -/
structure TrInit (K : PySem.W.Frag) (f : Addr) : Prop where
  ex : ∃ (oc : Value) (od : Option Addr) (D : Addr) (doc pm : Value) (an : Option Addr) (cdv ct : Value) (osl : Array (Option Value)), K.lookup f = some ⟨oc, od, .func (PySem.W.fnOf "__init__" "Tracker.__init__" (defArgs sTI) (defBody sTI) (defScope sTI) .none (.ref D) doc pm an cdv ct), osl⟩ ∧ PySem.W.codeIn K cdv "Tracker.__init__" = true ∧
    (∃ t, PySem.W.nsIn K D "seek" = some (some (.int 0 t))) ∧ (∃ t, PySem.W.nsIn K D "empty" = some (some (.str "none" t))) ∧ (∃ t, PySem.W.nsIn K D "strange" = some (some (.str "first" t))) ∧ ∃ t, PySem.W.nsIn K D "pause" = some (some (.str "clear" t))
def mix1 {α : Type} : List α → List α → List α := fun zs _ => zs
def mix2 {α : Type} : List α → List α → List α := fun zs _ => zs.reverse
def mix3 {α : Type} : List α → List α → List α := fun zs _ => match zs with
  | [e, s, p, st] => [s, e, st, p]
  | _ => []
def mix0 {α : Type} : List α → List α → List α := fun _ mv => mv
theorem vals_rev {xs : List V} {us : List Value} (r : Vals xs us) : Vals xs.reverse us.reverse := by
  induction r with
  | nil => exact .nil
  | cons h t ih => rw [List.reverse_cons, List.reverse_cons]; exact ih.append (.cons h .nil)
section
variable {P : Program} {w : World} {K : PySem.W.Frag} {mg : Str → Option Value} {base : Heap}
variable {CX : CXT} {f fR fN fW C : Addr} {gR gN gW : FuncData}
theorem st_one (hCX : StX.CXUp CX) (I : TrInit K f) (T : TrF K mg C)
    (GR : FnOk P w K mg base CX0 3 fR gR ["rooms", "most"] (spCkRooms K)) (mR : mg "check_rooms" = some (.ref fR)) (kR : PySem.W.keepIn K (.ref fR) = true) (bR : Binds K gR ["rooms", "most"] [])
    (GN : FnOk P w K mg base CX0 2 fN gN ["value", "least", "most"] spCkNum) (mN : mg "check_number" = some (.ref fN)) (kN : PySem.W.keepIn K (.ref fN) = true) (bN : Binds K gN ["value", "least", "most"] [])
    (GW : FnOk P w K mg base CX0 1 fW gW ["value", "words"] (spCkWord K)) (mW : mg "check_word" = some (.ref fW)) (kW : PySem.W.keepIn K (.ref fW) = true) (bW : Binds K gW ["value", "words"] []) :
    FnSt P w K mg base CX 4 f ["seek", "empty", "strange", "pause"] (fun zs => mix1 zs []) (spTrI K C) := by
  obtain ⟨oc, od, D, doc, pm, an, cdv, ct, osl, lk, hcd, d1, d2, d3, d4⟩ := I.ex
  exact fn_starKwo (ms := []) (g := mix1) (gV := mix1) (ps := ["seek", "empty", "strange", "pause"]) (pv := "rooms") (p0 := "self") lk hcd scTI hCX (fun q hq => by cases hq) (fun r _ => r) (fun ws mv l _ => l)
    (fun a us ws mv l1 l2 => match ws, l1, mv, l2, us with
      | [_, _, _, _], _, [], _, [] => rfl
      | [_, _, _, _], _, [], _, _ :: _ => rfl)
    (fun A outer s H vs Q E hr h => body_ti T GR mR kR bR GN mN kN bN GW mW kW bW hr h)
theorem st_two (hCX : StX.CXUp CX) (I : TrInit K f) (T : TrF K mg C)
    (GR : FnOk P w K mg base CX0 3 fR gR ["rooms", "most"] (spCkRooms K)) (mR : mg "check_rooms" = some (.ref fR)) (kR : PySem.W.keepIn K (.ref fR) = true) (bR : Binds K gR ["rooms", "most"] [])
    (GN : FnOk P w K mg base CX0 2 fN gN ["value", "least", "most"] spCkNum) (mN : mg "check_number" = some (.ref fN)) (kN : PySem.W.keepIn K (.ref fN) = true) (bN : Binds K gN ["value", "least", "most"] [])
    (GW : FnOk P w K mg base CX0 1 fW gW ["value", "words"] (spCkWord K)) (mW : mg "check_word" = some (.ref fW)) (kW : PySem.W.keepIn K (.ref fW) = true) (bW : Binds K gW ["value", "words"] []) :
    FnSt P w K mg base CX 4 f ["pause", "strange", "empty", "seek"] (fun zs => mix2 zs []) (spTrI K C) := by
  obtain ⟨oc, od, D, doc, pm, an, cdv, ct, osl, lk, hcd, d1, d2, d3, d4⟩ := I.ex
  exact fn_starKwo (ms := []) (g := mix2) (gV := mix2) (ps := ["seek", "empty", "strange", "pause"]) (pv := "rooms") (p0 := "self") lk hcd scTI hCX (fun q hq => by cases hq) (fun r _ => vals_rev r) (fun ws mv l _ => by show ws.reverse.length = 4; rw [List.length_reverse]; exact l)
    (fun a us ws mv l1 l2 => match ws, l1, mv, l2, us with
      | [_, _, _, _], _, [], _, [] => rfl
      | [_, _, _, _], _, [], _, _ :: _ => rfl)
    (fun A outer s H vs Q E hr h => body_ti T GR mR kR bR GN mN kN bN GW mW kW bW hr h)
theorem st_three (hCX : StX.CXUp CX) (I : TrInit K f) (T : TrF K mg C)
    (GR : FnOk P w K mg base CX0 3 fR gR ["rooms", "most"] (spCkRooms K)) (mR : mg "check_rooms" = some (.ref fR)) (kR : PySem.W.keepIn K (.ref fR) = true) (bR : Binds K gR ["rooms", "most"] [])
    (GN : FnOk P w K mg base CX0 2 fN gN ["value", "least", "most"] spCkNum) (mN : mg "check_number" = some (.ref fN)) (kN : PySem.W.keepIn K (.ref fN) = true) (bN : Binds K gN ["value", "least", "most"] [])
    (GW : FnOk P w K mg base CX0 1 fW gW ["value", "words"] (spCkWord K)) (mW : mg "check_word" = some (.ref fW)) (kW : PySem.W.keepIn K (.ref fW) = true) (bW : Binds K gW ["value", "words"] []) :
    FnSt P w K mg base CX 4 f ["empty", "seek", "pause", "strange"] (fun zs => mix3 zs []) (spTrI K C) := by
  obtain ⟨oc, od, D, doc, pm, an, cdv, ct, osl, lk, hcd, d1, d2, d3, d4⟩ := I.ex
  exact fn_starKwo (ms := []) (g := mix3) (gV := mix3) (ps := ["seek", "empty", "strange", "pause"]) (pv := "rooms") (p0 := "self") lk hcd scTI hCX (fun q hq => by cases hq)
    (fun r _ => match r with
      | .cons a (.cons b (.cons c (.cons d .nil))) => .cons b (.cons a (.cons d (.cons c .nil)))
      | .nil => .nil
      | .cons _ .nil => .nil
      | .cons _ (.cons _ .nil) => .nil
      | .cons _ (.cons _ (.cons _ .nil)) => .nil
      | .cons _ (.cons _ (.cons _ (.cons _ (.cons _ _)))) => .nil)
    (fun ws mv l _ => match ws, l with | [_, _, _, _], _ => rfl)
    (fun a us ws mv l1 l2 => match ws, l1, mv, l2, us with
      | [_, _, _, _], _, [], _, [] => rfl
      | [_, _, _, _], _, [], _, _ :: _ => rfl)
    (fun A outer s H vs Q E hr h => body_ti T GR mR kR bR GN mN kN bN GW mW kW bW hr h)
theorem st_none (hCX : StX.CXUp CX) (I : TrInit K f) (T : TrF K mg C)
    (GR : FnOk P w K mg base CX0 3 fR gR ["rooms", "most"] (spCkRooms K)) (mR : mg "check_rooms" = some (.ref fR)) (kR : PySem.W.keepIn K (.ref fR) = true) (bR : Binds K gR ["rooms", "most"] [])
    (GN : FnOk P w K mg base CX0 2 fN gN ["value", "least", "most"] spCkNum) (mN : mg "check_number" = some (.ref fN)) (kN : PySem.W.keepIn K (.ref fN) = true) (bN : Binds K gN ["value", "least", "most"] [])
    (GW : FnOk P w K mg base CX0 1 fW gW ["value", "words"] (spCkWord K)) (mW : mg "check_word" = some (.ref fW)) (kW : PySem.W.keepIn K (.ref fW) = true) (bW : Binds K gW ["value", "words"] []) :
    FnSt P w K mg base CX 4 f [] (fun _ => [.int 0, .str "none", .str "first", .str "clear"]) (spTrI K C) := by
  obtain ⟨oc, od, D, doc, pm, an, cdv, ct, osl, lk, hcd, ⟨t1, d1⟩, ⟨t2, d2⟩, ⟨t3, d3⟩, ⟨t4, d4⟩⟩ := I.ex
  exact fn_starKwo (ms := [("seek", .int 0), ("empty", .str "none"), ("strange", .str "first"), ("pause", .str "clear")]) (g := mix0) (gV := mix0) (ps := ["seek", "empty", "strange", "pause"]) (pv := "rooms") (p0 := "self") lk hcd scTI hCX
    (fun q hq => by
      simp only [List.mem_cons, List.not_mem_nil, or_false] at hq
      rcases hq with rfl | rfl | rfl | rfl
      · exact ⟨_, d1, _, rfl⟩
      · exact ⟨_, d2, _, rfl⟩
      · exact ⟨_, d3, _, rfl⟩
      · exact ⟨_, d4, _, rfl⟩) (fun _ r => r) (fun ws mv _ l => l)
    (fun a us ws mv l1 l2 => match ws, l1, mv, l2, us with
      | [], _, [_, _, _, _], _, [] => ⟨_, _, _, _, _, _, rfl, rfl, _, _, _, _, _, _, rfl, rfl, _, _, _, _, _, _, rfl, rfl, _, _, _, _, _, _, rfl, rfl, rfl⟩
      | [], _, [_, _, _, _], _, _ :: _ => ⟨_, _, _, _, _, _, rfl, rfl, _, _, _, _, _, _, rfl, rfl, _, _, _, _, _, _, rfl, rfl, _, _, _, _, _, _, rfl, rfl, rfl⟩)
    (fun A outer s H vs Q E hr h => body_ti T GR mR kR bR GN mN kN bN GW mW kW bW hr h)
end
end Own

namespace Own
open PySem L2 ClX
/-! ### len(o), repr(o) of an own instance -/
section
variable {X : Cx} {CX : CXT} {k : Nat} {C f : Addr} {fd : FuncData} {ps : List Str} {sp : Sp}
/-- what a special method of an own class must be -/
structure Spec1 (K : PySem.W.Frag) (C f : Addr) (name : Str) : Prop where
  at_ : PySem.W.findIn K (.ref C) name = some (some (.ref f))
  fn : PySem.W.isFn K (.ref f) = true
def rLenO (C : Addr) (sp : Sp) : List V → Hp → VK → Prop := fun xs H Q => ∃ (a dx : Addr) (fs : List (Str × V)), xs = [.ref a] ∧ H a = some (.ins C dx fs) ∧ sp [.ref a] H (fun v H' => (∃ n : Int, v = .int n ∧ 0 ≤ n ∧ n < 2 ^ 63) ∧ Q v H') (fun _ _ _ => False)
def rRepO (C : Addr) (sp : Sp) : List V → Hp → VK → Prop := fun xs H Q => ∃ (a dx : Addr) (fs : List (Str × V)), xs = [.ref a] ∧ H a = some (.ins C dx fs) ∧ sp [.ref a] H (fun v H' => (∃ z : Str, v = .str z) ∧ Q v H') (fun _ _ _ => False)
theorem run_in1 {pins : List (Addr × Obj)} {σ : L2.St} {H : Hp} {s : Shared} {Q : VK} {a : Addr} (F : FnOk X.prog X.w X.K X.mg X.base CX k f fd ps sp) (hr : Room (k + 1) X.A) (hb : Binds X.K fd ps []) (hx : Passes CX X (fun _ _ _ => False)) (I : Inv X pins σ H s) (h : sp [.ref a] H Q (fun _ _ _ => False)) :
    wpAny (model X.prog X.w) X.A.in1 (call (.ref f) [.ref a]) (EP X pins σ Q) X.xe s := by
  have hl : ([Value.ref a] ++ []).length = ps.length := by
    rw [← F.len _ _ _ _ h]
    rfl
  have b := hb s [.ref a] I.kIn hl
  rw [List.append_nil] at b
  refine wpAny_call (codeAny_mono (F.run X.A.in1 X.stack s H ⟨[.ref a], []⟩ [.ref a] [.ref a] Q _ hr.in1 I.env0.in1 b (.cons rfl .nil) h) fun r s' hq => ?_)
  cases r with
  | error er => exact hx pins σ H s er s' I hq
  | ok fl =>
    cases fl with
    | ret u => exact I.after hq
    | next => exact False.elim hq
    | brk => exact False.elim hq
    | cont => exact False.elim hq
theorem call_lenO (S : Spec1 X.K C f "__len__") (F : FnOk X.prog X.w X.K X.mg X.base CX k f fd ps sp) (hr : Room (k + 1) X.A) (hb : Binds X.K fd ps []) (hx : Passes CX X (fun _ _ _ => False)) : CallR X (.builtin "len") (rLenO C sp) := by
  intro pins s σ H xs us Q I r h
  obtain ⟨a, dx, fs, rfl, ha, q⟩ := h
  obtain ⟨u, rfl, rx⟩ := vals1 r
  cases (show u = Value.ref a from rx)
  obtain ⟨mA, J, _⟩ := ins_get I.hok ha
  obtain ⟨od, J, _⟩ := J.look
  obtain ⟨m, hF⟩ := I.fr
  refine PySem.W.len_K hF I.ok.mod.kin J S.at_ S.fn (thn (run_in1 F hr hb hx I q) fun w s' ⟨v, H', I', rv, ⟨n, ev, h0, h1⟩, qv⟩ => ?_)
  subst ev
  obtain ⟨t, rfl⟩ := rv
  exact ⟨⟨h0, h1⟩, ⟨.int n, H', I'.tok _, ⟨_, rfl⟩, qv⟩⟩
theorem call_repO (S : Spec1 X.K C f "__repr__") (F : FnOk X.prog X.w X.K X.mg X.base CX k f fd ps sp) (hr : Room (k + 1) X.A) (hb : Binds X.K fd ps []) (hx : Passes CX X (fun _ _ _ => False)) : CallR X (.builtin "repr") (rRepO C sp) := by
  intro pins s σ H xs us Q I r h
  obtain ⟨a, dx, fs, rfl, ha, q⟩ := h
  obtain ⟨u, rfl, rx⟩ := vals1 r
  cases (show u = Value.ref a from rx)
  obtain ⟨mA, J, _⟩ := ins_get I.hok ha
  obtain ⟨od, J, _⟩ := J.look
  obtain ⟨m, hF⟩ := I.fr
  refine PySem.W.repr_K hr.in1.units0 hF I.ok.mod.kin J S.at_ S.fn (thn (run_in1 F hr hb hx I q) fun w s' ⟨v, H', I', rv, ⟨z, ev⟩, qv⟩ => ?_)
  subst ev
  obtain ⟨t, rfl⟩ := rv
  exact ⟨.str z, H', I', ⟨_, rfl⟩, qv⟩
end
end Own

namespace Own
open PySem L2 ClX PySem.Spec PyProof.Rows
/-! ### def f(self, **d): the keywords stand in a new dict -/
section
variable {prog : Program} {w : World} {A : Around} {E : Value → Shared → Prop} {d : Addr}
theorem ns_put {s : Shared} {es : List DictEntry} {n : Nat} {k : Str} {v : Value} {Q : Unit → Shared → Prop} (D : s.heap.get? d = some (PySem.W.dictOf es n)) (hs : ∀ e ∈ es, e.key.isStr k = false) (hr : ∀ e ∈ es, e.refKey = false)
    (h : ∀ h' : Heap, h'.get? d = some (PySem.W.dictOf (es ++ [⟨PyData.keyHash w.params k, .str k s.toks, v⟩]) (n + 1)) → (∀ b u, b ≠ d → s.heap.get? b = some u → h'.get? b = some u) → Q () { s with heap := h', toks := s.toks + 1 }) :
    wpAny (model prog w) A (nsSet d k v) Q E s := by
  have e1 : es.any (·.key.isStr k) = false := by
    cases q : es.any (·.key.isStr k) with
    | false => rfl
    | true => obtain ⟨e, he, z⟩ := List.any_eq_true.mp q; rw [hs e he] at z; cases z
  have e2 : es.any (·.refKey) = false := by
    cases q : es.any (·.refKey) with
    | false => rfl
    | true => obtain ⟨e, he, z⟩ := List.any_eq_true.mp q; rw [hr e he] at z; cases z
  have e : Obj.putName k (PyData.keyHash w.params k) (.str k s.toks) v (PySem.W.dictOf es n) = PySem.W.dictOf (es ++ [⟨PyData.keyHash w.params k, .str k s.toks, v⟩]) (n + 1) := by
    rw [PySem.W.putName_dict, PySem.W.putL_new hs]
    show PySem.W.dictOf _ (if es.any (·.key.isStr k) then n else n + 1) = _
    rw [e1, if_neg Bool.false_ne_true]
  have c : aRefKeyMayBeTheName k es.toArray = false := by
    rw [aRefKeyMayBeTheName_at, ← Array.any_toList, ← Array.any_toList]
    show (!es.any (·.key.isStr k) && es.any (·.refKey)) = false
    rw [e2, Bool.and_false]
  unfold nsSet
  refine wpAny_bind (wpAny_bind (wpAny_askSetting (wpAny_pure (wpAny_bind (wpAny_mkText (wpAny_bind (wpAny_loadPart D ?_)))))))
  dsimp only
  rw [c]
  refine wpAny_updatePart D (h _ ?_ fun b u hb q => ?_)
  · rw [← e]
    exact Heap.get?_update_self (Obj.putName k (PyData.keyHash w.params k) (.str k s.toks) v) D (by rw [e]; rfl)
  · exact (Heap.get?_update_other _ _ (Ne.symm hb)).trans q
theorem ns_fill {Q : PUnit → Shared → Prop} : ∀ (ex : List (Str × Value)) (s : Shared) (es : List DictEntry) (n : Nat), s.heap.get? d = some (PySem.W.dictOf es n) →
    (∀ e ∈ es, ∀ x ∈ ex, e.key.isStr x.1 = false) → (∀ e ∈ es, e.refKey = false) → (ex.map (·.1)).Nodup →
    (∀ h' : Heap, h'.get? d = some (PySem.W.dictOf (es ++ PySem.W.kwEs w.params s.toks ex) (n + ex.length)) → (∀ b u, b ≠ d → s.heap.get? b = some u → h'.get? b = some u) → Q ⟨⟩ { s with heap := h', toks := s.toks + ex.length }) →
    wpAny (model prog w) A (forIn ex PUnit.unit fun x _ => (nsSet d x.1 x.2 >>= fun _ => pure (ForInStep.yield PUnit.unit))) Q E s
  | [], s, es, n, D, _, _, _, h => by
    rw [List.forIn_nil]
    refine wpAny_pure (h s.heap ?_ fun _ _ _ q => q)
    show s.heap.get? d = some (PySem.W.dictOf (es ++ []) n)
    rw [List.append_nil]
    exact D
  | x :: r, s, es, n, D, hs, hr, hn, h => by
    obtain ⟨hn1, hn2⟩ := List.nodup_cons.mp (show (x.1 :: r.map (·.1)).Nodup from hn)
    rw [List.forIn_cons]
    refine wpAny_bind (wpAny_bind (ns_put D (fun e he => hs e he x (.head _)) hr fun h' D' kp => wpAny_pure ?_))
    show wpAny (model prog w) A (forIn r PUnit.unit fun x _ => (nsSet d x.1 x.2 >>= fun _ => pure (ForInStep.yield PUnit.unit))) Q E { s with heap := h', toks := s.toks + 1 }
    refine ns_fill r { s with heap := h', toks := s.toks + 1 } _ _ D' (fun e he y hy => ?_) (fun e he => ?_) hn2 fun h'' D'' kp' => ?_
    · rcases List.mem_append.mp he with he | he
      · exact hs e he y (.tail _ hy)
      · obtain rfl := List.mem_singleton.mp he
        show (x.1 == y.1) = false
        exact beq_eq_false_iff_ne.mpr fun q => hn1 (by rw [q]; exact List.mem_map_of_mem hy)
    · rcases List.mem_append.mp he with he | he
      · exact hr e he
      · obtain rfl := List.mem_singleton.mp he
        rfl
    · have t1 : s.toks + 1 + r.length = s.toks + (r.length + 1) := by omega
      have t2 : n + 1 + r.length = n + (r.length + 1) := by omega
      show Q ⟨⟩ { s with heap := h'', toks := s.toks + 1 + r.length }
      rw [t1]
      refine h h'' ?_ fun b u hb q => kp' b u hb (kp b u hb q)
      rw [t2, List.append_assoc] at D''
      exact D''
end
def kwV : List (Str × V) → List (Key × V) := fun l => l.map fun p => (Sum.inr p.1, p.2)
def kwU : List (Str × Value) → List (Key × Value) := fun l => l.map fun p => (Sum.inr p.1, p.2)
theorem kw_pairs {P : Program} {w : World} : ∀ (ex : List (Str × Value)) (t : Tok), Pairs (mixKind P w) (PySem.W.kwEs w.params t ex) (kwU ex)
  | [], _ => Pairs.nil
  | x :: r, t => Pairs.cons (mixKind_str P w x.1 t) rfl (kw_pairs r (t + 1))
theorem kw_keys {P : Program} {w : World} {ex : List (Str × Value)} {t : Tok} : KeysOf (mixKind P w) (PySem.W.kwEs w.params t ex).toArray := fun e he => by
  obtain ⟨k, u, hk, hh⟩ := PySem.W.kwEs_key ex t e (List.mem_toArray.mp he)
  exact ⟨.inr k, by rw [hk]; exact mixKind_str P w k u, hh⟩
theorem kw_kv : ∀ {ks : List Str} {zs : List V} {ws : List Value}, Vals zs ws → KV (kwV (ks.zip zs)) (kwU (ks.zip ws))
  | [], _, _, _ => .nil
  | _ :: _, _, _, .nil => .nil
  | _ :: _, _, _, .cons a r => .cons ⟨rfl, a⟩ (kw_kv r)
theorem kw_nd {ks : List Str} : ∀ {ex : List (Str × Value)}, (ex.map (·.1)).Nodup → ((kwU ex).map (·.1)).Nodup
  | [], _ => List.nodup_nil
  | x :: r, h => by
    obtain ⟨h1, h2⟩ := List.nodup_cons.mp (show (x.1 :: r.map (·.1)).Nodup from h)
    show ((Sum.inr x.1 : Key) :: (kwU r).map (·.1)).Nodup
    refine List.nodup_cons.mpr ⟨fun z => h1 ?_, kw_nd (ks := ks) h2⟩
    obtain ⟨y, hy, e⟩ := List.mem_map.mp z
    obtain ⟨p, hp, rfl⟩ := List.mem_map.mp hy
    have e : (Sum.inr p.1 : Key) = Sum.inr x.1 := e
    rw [← Sum.inr.inj e]
    exact List.mem_map_of_mem hp
/-- o.m(k = v, ..) of a def m(self, **d): what it promises by the values -/
def FnKw (P : Program) (w : World) (K : PySem.W.Frag) (mg : Str → Option Value) (base : Heap) (CX : CXT) (k : Nat) (f : Addr) (ks : List Str) (sp : Sp) : Prop :=
  ∀ (A : Around) (outer : List Env) (s : Shared) (H : Hp) (a : Value) (va : V) (ws : List Value) (zs : List V) (Q : VK) (E : XK), Room k A → Env0 P w K mg base A outer s H → RelV va a → Vals zs ws → zs.length = ks.length →
    (∀ p, H p = none → sp [va, .ref p] (upd H p (.dK (kwV (ks.zip zs)))) Q E) → codeAny (model P w) A (.call (.ref f) ⟨[a], ks.zip ws⟩) (CR CX outer P w H s Q E) s
section
variable {CX : CXT} {P : Program} {w : World} {K : PySem.W.Frag} {mg : Str → Option Value} {base : Heap} {k : Nat} {f : Addr} {name qual pd p0 : Str} {params : Arguments} {body : List Stmt} {scope : Scope} {dV kV doc pm cdv ct oc : Value} {an od : Option Addr} {osl : Array (Option Value)} {N ks : List Str} {sp : Sp}
theorem map_zip_fst : ∀ {ks : List Str} {ws : List Value}, ws.length = ks.length → (ks.zip ws).map (·.1) = ks
  | [], _, _ => rfl
  | _ :: _, [], h => by cases h
  | k :: ks, _ :: ws, h => by
    show k :: (ks.zip ws).map (·.1) = k :: ks
    rw [map_zip_fst (Nat.succ.inj h)]
theorem fn_kwo (lk : K.lookup f = some ⟨oc, od, .func (PySem.W.fnOf name qual params body scope dV kV doc pm an cdv ct), osl⟩) (hcd : PySem.W.codeIn K cdv qual = true) (S : FnScope N [p0, pd] scope) (hCX : StX.CXUp CX) (hnd : ks.Nodup) (hsz : ks.length ≤ sizeLine)
    (hb : ∀ (a : Value) (ws : List Value), ws.length = ks.length → bindArgs (PySem.W.fnOf name qual params body scope dV kV doc pm an cdv ct) ⟨[a], ks.zip ws⟩ =
      (alloc ({ cls := .type "dict", data := .dict #[] } : Obj) : Sem Addr) >>= fun d => (forIn (ks.zip ws) PUnit.unit fun x _ => (nsSet d x.1 x.2 >>= fun _ => pure (ForInStep.yield PUnit.unit))) >>= fun _ => pure [(p0, a), (pd, Value.ref d)])
    (hbody : ∀ (A : Around) (outer : List Env) (s : Shared) (H : Hp) (vs : List V) (Q : VK) (E : XK), Room k (A.deeper (envOfC qual scope s.heap.objs.size f cdv)) → sp vs H Q E →
      ∃ t, PSs (cxOf CX P w K mg base N qual scope f cdv A outer s H E) body t ∧ t { nx := fun _ H' => Q .non H', rt := Q } (start N vs) H) :
    FnKw P w K mg base CX (k + 1) f ks sp := by
  intro A outer s H a va ws zs Q E hr e0 ra rz hzl hq
  have hn : H s.heap.objs.size = Option.none := e0.hok.fresh (Nat.le_refl _)
  have hwl : ws.length = ks.length := by rw [← rz.length]; exact hzl
  have hnd' : ((ks.zip ws).map (·.1)).Nodup := by rw [map_zip_fst hwl]; exact hnd
  refine StX.run_bnd (ps := [p0, pd]) lk hcd S hr e0 (G := fun xs H2 => ∃ p, H p = Option.none ∧ xs = [va, V.ref p] ∧ H2 = upd H p (.dK (kwV (ks.zip zs)))) (fun A' Ex Q' h => ?_) fun s2 H2 xs ⟨p, hp, ex, eH⟩ hr' => ?_
  · rw [hb a ws hwl]
    have g0 : (s.heap.push (PySem.W.dictOf [] 0)).get? s.heap.objs.size = some (PySem.W.dictOf [] 0) := Heap.get?_push_size _ rfl
    refine wpAny_bind (wpAny_alloc (wpAny_bind ?_))
    refine ns_fill (ks.zip ws) { s with heap := s.heap.push (PySem.W.dictOf [] 0) } [] 0 g0 (fun _ he => nomatch he) (fun _ he => nomatch he) hnd' fun h' D' kp => wpAny_pure ?_
    have kp2 : ∀ b u, s.heap.get? b = some u → h'.get? b = some u := fun b u q => kp b u (Nat.ne_of_lt (Heap.lt_size q)) (Heap.get?_push_of_some _ q)
    have new : ObjOk P w (upd H s.heap.objs.size (.dK (kwV (ks.zip zs)))) h' s.heap.objs.size (.dK (kwV (ks.zip zs))) := by
      refine ⟨?_, beq_eq_false_iff_ne.mpr (Ne.symm (Nat.ne_of_lt (StX.env0_big e0))), kwU (ks.zip ws), kw_kv rz, _, _, _, D', ⟨rfl, rfl, rfl⟩, rfl, kw_keys, kw_pairs _ _, kw_nd (ks := ks) hnd'⟩
      show ((ks.zip zs).map _).length ≤ sizeLine
      rw [List.length_map, List.length_zip]
      omega
    have un : Un (frs outer) [] H (upd H s.heap.objs.size (.dK (kwV (ks.zip zs)))) s.heap h' := Un.laid kp2 (Nat.le_refl _) hn
    have hlt : s.heap.objs.size < h'.objs.size := Heap.lt_size D'
    have e2 : Env0 P w K mg base A outer { s with heap := h', toks := s.toks + (ks.zip ws).length } (upd H s.heap.objs.size (.dK (kwV (ks.zip zs)))) := by
      refine ⟨e0.frames, e0.mod, fun b x e => ⟨kp2 b x (e0.bs b x e).1, ?_⟩, Nat.le_trans e0.bsz (Nat.le_of_lt hlt), Heap.FunFrames.of_keeps (fun b x e _ => ⟨x, kp2 b x e, rfl⟩) e0.funs, fun b hb => ?_, e0.hok.laid kp2 (Nat.le_refl _) new, e0.bare⟩
      · rw [upd_ne (Nat.ne_of_lt (Heap.lt_size (e0.bs b x e).1))]
        exact (e0.bs b x e).2
      · obtain ⟨_, x, hx, _⟩ := e0.funs.mem hb
        rw [upd_ne (Nat.ne_of_lt (Heap.lt_size hx))]
        exact e0.frf b hb
    exact h _ _ [va, V.ref s.heap.objs.size] [a, Value.ref s.heap.objs.size] e2 un rfl (fun e s' => hCX outer s H _ _ E e s' un kp2 rfl) (.cons ra (.cons rfl .nil)) rfl ⟨_, hn, rfl, rfl⟩
  · subst ex eH
    exact hbody A outer s2 _ _ Q E hr' (hq p hp)
end
/-- o.m(k = v, ..) of an instance of C -/
def tMethKw (C : Addr) (m : Str) (ks : List Str) (sp : Sp) (E : XK) (ta : TE) (tk : TA) : TE := fun σ H Q => ta σ H fun x H1 => ∃ a dx fs, x = .ref a ∧ H1 a = some (.ins C dx fs) ∧ fs.lookup m = none ∧
  tk σ H1 fun zs H2 => zs.length = ks.length ∧ ∀ p, H2 p = none → sp [x, .ref p] (upd H2 p (.dK (kwV (ks.zip zs)))) Q E
section
variable {X : Cx} {CX : CXT} {k : Nat} {f C : Addr} {ks : List Str} {sp : Sp} {E : XK} {m : Str} {o : Expr} {kws : List Keyword} {ta : TE} {tk : TA} {p pos apos : Pos} {pl : Sem Bool}
theorem pe_methKw (c : Cls X.K C) (km : Meth X.K C m f) (F : FnKw X.prog X.w X.K X.mg X.base CX k f ks sp) (hr : Room k X.A) (kp : PySem.W.keepIn X.K (.ref f) = true) (hx : Passes CX X E) (ho : PE X o ta) (hkw : PK X kws tk)
    (hall : (backToKw pos (keywordEach kws X.env)).all (·.1.isSome) = true := by rfl) (hks : (backToKw pos (keywordEach kws X.env)).filterMap (·.1) = ks := by rfl)
    (hpl : ((backTo pos (starEach [] X.env)).any (·.1) || (backToKw pos (keywordEach kws X.env)).any (·.1.isNone)) = false := by rfl)
    (he : eval (.Call (.Attribute o m apos) [] kws pos) X.env = (do
      let ov ← eval o X.env
      standAt apos.atName
      let (f, first) ← holding [ov] (getMethod ov m pl)
      callWith pos f first (backTo pos (starEach [] X.env)) (backToKw pos (keywordEach kws X.env))) := by rfl) :
    PE X (.Call (.Attribute o m apos) [] kws pos) (tMethKw C m ks sp E ta tk) := by
  refine ⟨fun pins s σ H Q I h => ?_⟩
  refine PySem.W.methodCall_KW (thn (ho.run pins s σ H _ I h) fun u s1 ⟨x, H1, I1, rx, a, dx, fs, ex, hi, hl, q⟩ => ?_) he
  subst ex
  obtain rfl : u = Value.ref a := rx
  refine getmeth_ok I1 hi c km hl ?_
  refine PySem.W.callWith_KW0 (h₀ := X.base) I1.ok.mod.kin kp hall (thn (hkw.run pos pins s1 σ H1 _ I1 q) fun ws s2 ⟨zs, H2, I2, rz, l2, q2⟩ => ⟨I2.kIn, ?_⟩) hpl
  rw [hks]
  refine wpAny_call (codeAny_mono (F X.A X.stack s2 H2 (.ref a) (.ref a) ws zs Q E hr I2.env0 rfl rz l2 q2) fun r s' hq => ?_)
  cases r with
  | error er => exact hx pins σ H2 s2 er s' I2 hq
  | ok fl =>
    cases fl with
    | ret u => exact I2.after hq
    | next => exact False.elim hq
    | brk => exact False.elim hq
    | cont => exact False.elim hq
end
end Own

namespace Own
open PySem L2 ClX
abbrev sCkF : Stmt := topT 14
theorem upd_back {H : Hp} {a : Addr} {o u : HO} (h : H a = some u) : upd (upd H a o) a u = H := by
  funext b
  by_cases e : b = a
  · rw [e, upd_same, h]
  · rw [upd_ne e, upd_ne e]
/-- all keys are among the words -/
def spCkF (K : PySem.W.Frag) : Sp := fun vs H Q _ => ∃ (d t : Addr) (l : List (Str × V)) (ws : List V), vs = [.ref d, .ref t] ∧ H d = some (.dK (kwV l)) ∧ KT K t ws ∧ ws.all flatV = true ∧ (∀ p, p ∈ l → inV (.str p.1) ws = true) ∧ Q .non H
section
variable {P : Program} {w : World} {K : PySem.W.Frag} {mg : Str → Option Value} {base : Heap}
theorem scCkF : FnScope ["fields", "names", "name"] ["fields", "names"] (defScope sCkF) := ⟨rfl, rfl, rfl, by decide +kernel, rfl, by decide +kernel, by decide +kernel⟩
theorem ok_ckf {f : Addr} {fd : FuncData} (F : Fun K "check_fields" "check_fields" sCkF f fd) : FnOk P w K mg base CX0 1 f fd ["fields", "names"] (spCkF K) := by
  refine F.ok scCkF (fun vs H Q E h => ?_) (fun cdv A outer s H vs Q E hr h => ?_)
  · obtain ⟨d, t, l, ws, rfl, _⟩ := h
    rfl
  · obtain ⟨d, t, l, ws, rfl, hd, ht, hf, hall, k⟩ := h
    refine ⟨_, pss_one (ps_lock (ps_for PassesOwn.never rfl (pi_keys (pv 0)) (pg_name (i := 2) scCkF.nd rfl (Or.inl rfl)) (pss_one (ps_if (pt_cmpR op_notIn_seq (pv 2) (pv 1) (by rfl)) (pss_one ps_never) pss_nil)))), ?_⟩
    refine ⟨d, _, hd, trivial, fun od => ?_⟩
    refine ⟨_, rfl, d, od, rfl, .inl ⟨kwV l, upd_same, ?_⟩⟩
    refine for_it walk_keys (fun i σ H' => ∃ v : Option V, σ = [some (.ref d), some (.ref t), v] ∧ H' = upd H d (.frz od (.dK (kwV l)))) ⟨_, rfl, rfl⟩ ?_ ?_ ?_
    · rintro i σ H' _ ⟨v, rfl, rfl⟩
      exact upd_same
    · rintro i x σ H' H'' hi ⟨v, rfl, rfl⟩ ⟨rfl, k', v', hk, rfl⟩
      obtain ⟨q, hq, e⟩ : ∃ q, q ∈ l ∧ (k', v') = ((Sum.inr q.1 : Key), q.2) := by
        have := List.mem_of_getElem? hk
        obtain ⟨q, hq, e⟩ := List.mem_map.mp this
        exact ⟨q, hq, e.symm⟩
      obtain ⟨rfl, rfl⟩ := Prod.mk.inj e
      refine ⟨_, rfl, _, rfl, t, ws, rfl, .inr (.inr ht), rfl, hf, _, rfl, ?_⟩
      show if (!inV (.str q.1) ws) = true then _ else _
      rw [hall q hq]
      exact iteF ⟨_, rfl, rfl⟩
    · rintro σ H' ⟨v, rfl, rfl⟩
      refine ⟨upd_same, ?_⟩
      show Q .non (upd (upd H d _) d _)
      rw [upd_back hd]
      exact k
end
abbrev sTC : Stmt := inClass (topT 21) 7
def fieldsW : List V := [.str "rooms", .str "seek", .str "empty", .str "strange", .str "pause"]
/-- a field's value: the keyword's, or the tracker's -/
def fv (l : List (Str × V)) (x : Str) (v : V) : V := (valV (kwV l) (Sum.inr x)).getD v
def spCh (K : PySem.W.Frag) (C : Addr) : Sp := fun vs H Q _ => ∃ (a d dx t t' : Addr) (l : List (Str × V)) (s s' : Int) (e st p e' st' p' : Str) (rs' : List Int), vs = [.ref a, .ref d] ∧ H a = some (.ins C dx (trf t s e st p)) ∧ H d = some (.dK (kwV l)) ∧
  (∀ q, q ∈ l → inV (.str q.1) fieldsW = true) ∧ fv l "rooms" (.ref t) = .ref t' ∧ (SqT K H t' (rs'.map V.int) ∨ SqL K H t' (rs'.map V.int)) ∧ fv l "seek" (.int s) = .int s' ∧ fv l "empty" (.str e) = .str e' ∧ fv l "strange" (.str st) = .str st' ∧ fv l "pause" (.str p) = .str p' ∧ TrOk rs' s' e' st' p' ∧
  ∀ (x : Addr) (H' : Hp), H x = none → TrAt K C H' x rs' s' e' st' p' → (∀ b o, H b = some o → H' b = some o) → Q (.ref x) H'
section
variable {P : Program} {w : World} {K : PySem.W.Frag} {mg : Str → Option Value} {base : Heap}
theorem scTC : FnScope ["self", "fields", "rooms", "seek", "empty", "strange", "pause"] ["self", "fields"] (defScope sTC) := ⟨rfl, rfl, rfl, by decide +kernel, rfl, by decide +kernel, by decide +kernel⟩
theorem body_ch {f fF fI C : Addr} {gF : FuncData} {qual : Str} {cdv : Value} {A : Around} {outer : List Env} {s : Shared} {H : Hp} {vs : List V} {Q : VK} {E : XK} (T : TrF K mg C) (M : Mk K C fI)
    (GF : FnOk P w K mg base CX0 1 fF gF ["fields", "names"] (spCkF K)) (mF : mg "check_fields" = some (.ref fF)) (kF : PySem.W.keepIn K (.ref fF) = true) (bF : Binds K gF ["fields", "names"] []) (wf : ∃ t, mg "TRACKER_FIELDS" = some (.ref t) ∧ KT K t fieldsW)
    (GI : FnSt P w K mg base CX0 4 fI ["seek", "empty", "strange", "pause"] (fun zs => mix1 zs []) (spTrI K C))
    (hr : Room 5 (A.deeper (PyProof.Rows.envOfC qual (defScope sTC) s.heap.objs.size f cdv))) (h : spCh K C vs H Q E) :
    ∃ t, PSs (cxOf CX0 P w K mg base ["self", "fields", "rooms", "seek", "empty", "strange", "pause"] qual (defScope sTC) f cdv A outer s H E) (defBody sTC) t ∧ t { nx := fun _ H' => Q .non H', rt := Q } (start ["self", "fields", "rooms", "seek", "empty", "strange", "pause"] vs) H := by
  obtain ⟨a, d, dx, t, t', l, sk, sk', e, st, p, e', st', p', rs', rfl, ha, hd, hl, h1, ht, h2, h3, h4, h5, ok, k⟩ := h
  obtain ⟨tf, mf, kf⟩ := wf
  have nd := scTC.nd
  have hu : (A.deeper (PyProof.Rows.envOfC qual (defScope sTC) s.heap.objs.size f cdv)).units + 1 < cLine := by have := hr.units; omega
  refine ⟨_, pss_cons (ps_expr (pe_call GF (hr.mono (by decide)) rfl mF kF bF .nil pass0 (pa_cons (pv 1) (pa_cons (pe_glob (v := .ref tf) (by rfl) mf rfl) pa_nil))))
    (pss_cons (ps_set (i := 2) nd rfl (Or.inl rfl) (pe_dget2 hu (pv 1) pe_str (pe_fld (pv 0) rfl) ⟨rfl, rfl, rfl, rfl⟩))
    (pss_cons (ps_set (i := 3) nd rfl (Or.inl rfl) (pe_dget2 hu (pv 1) pe_str (pe_fld (pv 0) rfl) ⟨rfl, rfl, rfl, rfl⟩))
    (pss_cons (ps_set (i := 4) nd rfl (Or.inl rfl) (pe_dget2 hu (pv 1) pe_str (pe_fld (pv 0) rfl) ⟨rfl, rfl, rfl, rfl⟩))
    (pss_cons (ps_set (i := 5) nd rfl (Or.inl rfl) (pe_dget2 hu (pv 1) pe_str (pe_fld (pv 0) rfl) ⟨rfl, rfl, rfl, rfl⟩))
    (pss_cons (ps_set (i := 6) nd rfl (Or.inl rfl) (pe_dget2 hu (pv 1) pe_str (pe_fld (pv 0) rfl) ⟨rfl, rfl, rfl, rfl⟩))
    (pss_one (ps_ret (pe_mkSs M GI hr (by rfl) T.at_ pass0 (pv 2) (pk_cons (pv 3) (pk_cons (pv 4) (pk_cons (pv 5) (pk_cons (pv 6) pk_nil)))))))))))), ?_⟩
  refine ⟨_, rfl, d, tf, l, fieldsW, rfl, hd, kf, by decide +kernel, hl, ?_⟩
  refine ⟨_, rfl, d, rfl, .inl ⟨_, .inl hd⟩, _, rfl, a, C, dx, _, _, rfl, ha, T.cl, T.n1, rfl, _, DGet.k (k := Sum.inr "rooms") hd, ?_⟩
  refine ⟨_, rfl, d, rfl, .inl ⟨_, .inl hd⟩, _, rfl, a, C, dx, _, _, rfl, ha, T.cl, T.n2, rfl, _, DGet.k (k := Sum.inr "seek") hd, ?_⟩
  refine ⟨_, rfl, d, rfl, .inl ⟨_, .inl hd⟩, _, rfl, a, C, dx, _, _, rfl, ha, T.cl, T.n3, rfl, _, DGet.k (k := Sum.inr "empty") hd, ?_⟩
  refine ⟨_, rfl, d, rfl, .inl ⟨_, .inl hd⟩, _, rfl, a, C, dx, _, _, rfl, ha, T.cl, T.n4, rfl, _, DGet.k (k := Sum.inr "strange") hd, ?_⟩
  refine ⟨_, rfl, d, rfl, .inl ⟨_, .inl hd⟩, _, rfl, a, C, dx, _, _, rfl, ha, T.cl, T.n5, rfl, _, DGet.k (k := Sum.inr "pause") hd, ?_⟩
  refine ⟨_, rfl, _, rfl, _, rfl, _, rfl, _, rfl, t', rs'.map V.int, h1, ht, rfl, by rw [List.length_map]; have := ok.n3; omega, fun x dx2 p2 hx hdx n1 hp n2 n3 => ?_⟩
  refine ⟨x, dx2, p2, rs', sk', e', st', p', ?_, ?_, ?_, ok, fun H' q1 q2 => ⟨rfl, ?_⟩⟩
  · show [V.ref x, fv l "seek" (.int sk), fv l "empty" (.str e), fv l "strange" (.str st), fv l "pause" (.str p), V.ref p2] = _
    rw [h2, h3, h4, h5]
  · rw [upd_ne (Ne.symm n2), upd_same]
  · exact .inl (.inl upd_same)
  · refine k x H' hx ⟨dx2, p2, q1, .inl (.inl (q2 p2 _ n2 upd_same)), ok⟩ fun b o hb => q2 b o (ne_of_none hb hx) ?_
    rw [upd_ne (ne_of_none hb hp), upd_ne (ne_of_none hb hx), upd_ne (ne_of_none hb hdx)]
    exact hb
end
end Own

namespace Own
open PySem L2 ClX
def dInts (rs : List Int) : List PyData := rs.map PyData.int
theorem dpAll_ints {K : PySem.W.Frag} {H : Hp} : ∀ rs : List Int, DpAll K H (rs.map V.int) (dInts rs)
  | [] => .nil
  | _ :: rs => .cons (.int _) (dpAll_ints rs)
theorem eqv_ints : ∀ xs ys : List Int, PyData.eqvAll (dInts xs) (dInts ys) = decide (xs = ys)
  | [], [] => by simp [dInts, PyData.eqvAll]
  | [], _ :: _ => by simp [dInts, PyData.eqvAll]
  | _ :: _, [] => by simp [dInts, PyData.eqvAll]
  | x :: xs, y :: ys => by
    have ih := eqv_ints xs ys
    unfold dInts at ih ⊢
    simp only [List.map_cons, PyData.eqvAll, PyData.eqv, ih]
    by_cases e : x = y <;> by_cases e2 : xs = ys <;> simp [e, e2]
theorem lay_ints : ∀ xs : List Int, PyData.canLayAll0 (dInts xs) = true ∧ PyData.depthAll (dInts xs) = 0
  | [] => by simp [dInts, PyData.canLayAll0, PyData.depthAll]
  | x :: xs => by
    obtain ⟨h1, h2⟩ := lay_ints xs
    unfold dInts at h1 h2 ⊢
    simp only [List.map_cons, PyData.canLayAll0, PyData.canLay0, PyData.depthAll, PyData.depth, h1, h2]
    exact ⟨rfl, rfl⟩
theorem shaped_tup (xs : List Int) : SeqAt.shaped (.tuple (dInts xs)) = true := by
  obtain ⟨h1, h2⟩ := lay_ints xs
  simp only [SeqAt.shaped, PyData.canLay0, PyData.depth, h1, h2]
  rfl
theorem shaped_lst (xs : List Int) : SeqAt.shaped (.list (dInts xs)) = true := by
  obtain ⟨h1, h2⟩ := lay_ints xs
  simp only [SeqAt.shaped, PyData.canLay0, PyData.depth, h1, h2]
  rfl
theorem len123 {rs : List Int} {s : Int} {e st p : Str} (ok : TrOk rs s e st p) : rs.length = 1 ∨ rs.length = 2 ∨ rs.length = 3 := by
  have := ok.n1; have := ok.n3; omega
abbrev sTR : Stmt := inClass (topT 21) 2
abbrev sTLen : Stmt := inClass (topT 21) 9
abbrev sTRep : Stmt := inClass (topT 21) 10
abbrev sTEq : Stmt := inClass (topT 21) 8
abbrev sTG (i : Nat) : Stmt := inClass (topT 21) i
def trText (n : Nat) : Str := Str.empty ++ "Tracker(" ++ toString (n : Int) ++ " rooms)"
def spRooms (K : PySem.W.Frag) (C : Addr) : Sp := fun vs H Q _ => ∃ a rs s e st p, vs = [.ref a] ∧ TrAt K C H a rs s e st p ∧ ∀ l, H l = none → Q (.ref l) (upd H l (.lst (rs.map V.int)))
def spTLen (K : PySem.W.Frag) (C : Addr) : Sp := fun vs H Q _ => ∃ a rs s e st p, vs = [.ref a] ∧ TrAt K C H a rs s e st p ∧ Q (.int (rs.length : Nat)) H
def spTRep (K : PySem.W.Frag) (C : Addr) : Sp := fun vs H Q _ => ∃ a rs s e st p, vs = [.ref a] ∧ TrAt K C H a rs s e st p ∧ Q (.str (trText rs.length)) H
def eqT (rs : List Int) (s : Int) (e st p : Str) (rs' : List Int) (s' : Int) (e' st' p' : Str) : Bool := decide (rs = rs') && (decide (V.int s = V.int s') && (decide (V.str e = V.str e') && (decide (V.str st = V.str st') && decide (V.str p = V.str p'))))
def spTEq (K : PySem.W.Frag) (C : Addr) : Sp := fun vs H Q _ => ∃ a rs s e st p y, vs = [.ref a, y] ∧ TrAt K C H a rs s e st p ∧
  ((∃ b rs' s' e' st' p', y = .ref b ∧ TrAt K C H b rs' s' e' st' p' ∧ Q (.bl (eqT rs s e st p rs' s' e' st' p')) H) ∨ (∃ t, TyX K H y t ∧ PySem.W.kitOne K t (.ref C) = some false ∧ Q (.bl false) H))
section
variable {P : Program} {w : World} {K : PySem.W.Frag} {mg : Str → Option Value} {base : Heap} {f C : Addr} {fd : FuncData}
theorem scTR : FnScope ["self"] ["self"] (defScope sTR) := ⟨rfl, rfl, rfl, by decide +kernel, rfl, by decide +kernel, by decide +kernel⟩
theorem ok_rooms (F : Fun K "rooms" "Tracker.rooms" sTR f fd) (T : TrF K mg C) (zL : mg "list" = none) : FnOk P w K mg base CX0 1 f fd ["self"] (spRooms K C) := by
  refine F.ok scTR (fun vs H Q E h => ?_) (fun cdv A outer s H vs Q E hr h => ?_)
  · obtain ⟨a, rs, s, e, st, p, rfl, _⟩ := h
    rfl
  · obtain ⟨a, rs, s, e, st, p, rfl, ⟨dx, t, ha, ht, ok⟩, k⟩ := h
    refine ⟨_, pss_one (ps_ret (pe_callTy call_list_of (by rfl) zL (by decide +kernel) (pa_cons (pe_fld (pv 0) rfl) pa_nil))), ?_⟩
    exact ⟨_, rfl, a, C, dx, _, _, rfl, ha, T.cl, T.n1, rfl, t, _, rfl, .inr ht, k⟩
theorem scTLen : FnScope ["self"] ["self"] (defScope sTLen) := ⟨rfl, rfl, rfl, by decide +kernel, rfl, by decide +kernel, by decide +kernel⟩
theorem ok_tlen (F : Fun K "__len__" "Tracker.__len__" sTLen f fd) (T : TrF K mg C) (zL : mg "len" = none) : FnOk P w K mg base CX0 1 f fd ["self"] (spTLen K C) := by
  refine F.ok scTLen (fun vs H Q E h => ?_) (fun cdv A outer s H vs Q E hr h => ?_)
  · obtain ⟨a, rs, s, e, st, p, rfl, _⟩ := h
    rfl
  · obtain ⟨a, rs, s, e, st, p, rfl, ⟨dx, t, ha, ht, ok⟩, k⟩ := h
    refine ⟨_, pss_one (ps_ret (pe_callB call_len_seq (by rfl) zL PySem.boot_len (pa_cons (pe_fld (pv 0) rfl) pa_nil))), ?_⟩
    refine ⟨_, rfl, a, C, dx, _, _, rfl, ha, T.cl, T.n1, rfl, t, _, rfl, .inr ht, ?_⟩
    rw [List.length_map]
    exact k
theorem scTRep : FnScope ["self"] ["self"] (defScope sTRep) := ⟨rfl, rfl, rfl, by decide +kernel, rfl, by decide +kernel, by decide +kernel⟩
theorem ok_trep (F : Fun K "__repr__" "Tracker.__repr__" sTRep f fd) (T : TrF K mg C) (zL : mg "len" = none) : FnOk P w K mg base CX0 1 f fd ["self"] (spTRep K C) := by
  refine F.ok scTRep (fun vs H Q E h => ?_) (fun cdv A outer s H vs Q E hr h => ?_)
  · obtain ⟨a, rs, s, e, st, p, rfl, _⟩ := h
    rfl
  · obtain ⟨a, rs, s, e, st, p, rfl, ⟨dx, t, ha, ht, ok⟩, k⟩ := h
    refine ⟨_, pss_one (ps_ret (pe_joined (.cons pe_str (.cons (pe_fmt (pe_callB call_len_seq (by rfl) zL PySem.boot_len (pa_cons (pe_fld (pv 0) rfl) pa_nil))) (.cons pe_str .nil))))), ?_⟩
    have hl := len123 ok
    refine ⟨_, rfl, by rcases hl with h | h | h <;> decide +kernel, _, rfl, a, C, dx, _, _, rfl, ha, T.cl, T.n1, rfl, t, _, rfl, .inr ht, .inr ⟨_, rfl, ?_, ?_⟩⟩
    · rw [List.length_map]
      rcases hl with h | h | h <;> rw [h] <;> decide +kernel
    · rw [List.length_map]
      refine ⟨_, rfl, ?_, _, rfl, ?_, k⟩
      · rcases hl with h | h | h <;> rw [h] <;> decide +kernel
      · rcases hl with h | h | h <;> rw [h] <;> decide +kernel
theorem scTG3 : FnScope ["self"] ["self"] (defScope (sTG 3)) := ⟨rfl, rfl, rfl, by decide +kernel, rfl, by decide +kernel, by decide +kernel⟩
theorem scTG4 : FnScope ["self"] ["self"] (defScope (sTG 4)) := ⟨rfl, rfl, rfl, by decide +kernel, rfl, by decide +kernel, by decide +kernel⟩
theorem scTG5 : FnScope ["self"] ["self"] (defScope (sTG 5)) := ⟨rfl, rfl, rfl, by decide +kernel, rfl, by decide +kernel, by decide +kernel⟩
theorem scTG6 : FnScope ["self"] ["self"] (defScope (sTG 6)) := ⟨rfl, rfl, rfl, by decide +kernel, rfl, by decide +kernel, by decide +kernel⟩
theorem ok_g3 (F : Fun K "seek" "Tracker.seek" (sTG 3) f fd) (T : TrF K mg C) : FnOk P w K mg base CX0 1 f fd ["self"] (getSp C "_seek") := by
  refine F.ok scTG3 (fun vs H Q E ⟨a, dx, fs, v, e, _⟩ => by rw [e]; rfl) (fun cdv A outer s H vs Q E hr ⟨a, dx, fs, v, e, ea, l, q⟩ => ?_)
  subst e
  exact ⟨_, pss_one (ps_ret (pe_fld (pv 0) rfl)), _, rfl, a, C, dx, fs, v, rfl, ea, T.cl, T.n2, l, q⟩
theorem ok_g4 (F : Fun K "empty" "Tracker.empty" (sTG 4) f fd) (T : TrF K mg C) : FnOk P w K mg base CX0 1 f fd ["self"] (getSp C "_empty") := by
  refine F.ok scTG4 (fun vs H Q E ⟨a, dx, fs, v, e, _⟩ => by rw [e]; rfl) (fun cdv A outer s H vs Q E hr ⟨a, dx, fs, v, e, ea, l, q⟩ => ?_)
  subst e
  exact ⟨_, pss_one (ps_ret (pe_fld (pv 0) rfl)), _, rfl, a, C, dx, fs, v, rfl, ea, T.cl, T.n3, l, q⟩
theorem ok_g5 (F : Fun K "strange" "Tracker.strange" (sTG 5) f fd) (T : TrF K mg C) : FnOk P w K mg base CX0 1 f fd ["self"] (getSp C "_strange") := by
  refine F.ok scTG5 (fun vs H Q E ⟨a, dx, fs, v, e, _⟩ => by rw [e]; rfl) (fun cdv A outer s H vs Q E hr ⟨a, dx, fs, v, e, ea, l, q⟩ => ?_)
  subst e
  exact ⟨_, pss_one (ps_ret (pe_fld (pv 0) rfl)), _, rfl, a, C, dx, fs, v, rfl, ea, T.cl, T.n4, l, q⟩
theorem ok_g6 (F : Fun K "pause" "Tracker.pause" (sTG 6) f fd) (T : TrF K mg C) : FnOk P w K mg base CX0 1 f fd ["self"] (getSp C "_pause") := by
  refine F.ok scTG6 (fun vs H Q E ⟨a, dx, fs, v, e, _⟩ => by rw [e]; rfl) (fun cdv A outer s H vs Q E hr ⟨a, dx, fs, v, e, ea, l, q⟩ => ?_)
  subst e
  exact ⟨_, pss_one (ps_ret (pe_fld (pv 0) rfl)), _, rfl, a, C, dx, fs, v, rfl, ea, T.cl, T.n5, l, q⟩
theorem scTEq : FnScope ["self", "other"] ["self", "other"] (defScope sTEq) := ⟨rfl, rfl, rfl, by decide +kernel, rfl, by decide +kernel, by decide +kernel⟩
/-- what isinstance asks of the class -/
structure TyC (K : PySem.W.Frag) (C : Addr) : Prop where
  ha : PySem.W.findIn K (.ref C) "__class__" = some (some (.builtin "object.__class__"))
  hn : PySem.W.specialIn K (.builtin "object.__class__") "__get__" = some (some (.builtin "getset_descriptor.__get__"))
  htk : PySem.W.takesIn K (.builtin "object.__class__") = some true
  hm : PySem.W.mroIn K C (.type "object") = some true
  self : PySem.W.kitOne K (.ref C) (.ref C) = some true
theorem ok_teq (F : Fun K "__eq__" "Tracker.__eq__" sTEq f fd) (T : TrF K mg C) (TC : TyC K C) (zI : mg "isinstance" = none) : FnOk P w K mg base CX0 2 f fd ["self", "other"] (spTEq K C) := by
  refine F.ok scTEq (fun vs H Q E h => ?_) (fun cdv A outer s H vs Q E hr h => ?_)
  · obtain ⟨a, rs, s, e, st, p, y, rfl, _⟩ := h
    rfl
  · obtain ⟨a, rs, s, e, st, p, y, rfl, ⟨dx, t, ha, ht, ok⟩, k⟩ := h
    refine ⟨_, pss_one (ps_ret (pe_and (pe_callB call_isi (by rfl) zI (by decide +kernel) (pa_cons (pv 1) (pa_cons (pe_glob (v := .ref C) (by rfl) T.at_ rfl) pa_nil)))
      (pe_and (pe_cmpR (op_eqD hr.units) (pe_fld (pv 0) rfl) (pe_fld (pv 1) rfl) (nomark _)) (pe_and (pe_cmpR op_eq (pe_fld (pv 0) rfl) (pe_fld (pv 1) rfl) (nomark _)) (pe_and (pe_cmpR op_eq (pe_fld (pv 0) rfl) (pe_fld (pv 1) rfl) (nomark _))
      (pe_and (pe_cmpR op_eq (pe_fld (pv 0) rfl) (pe_fld (pv 1) rfl) (nomark _)) (pe_one (pe_cmpR op_eq (pe_fld (pv 0) rfl) (pe_fld (pv 1) rfl) (nomark _))))))))), ?_⟩
    rcases k with ⟨b, rs', s', e', st', p', rfl, ⟨dx', t', hb, ht', ok'⟩, k⟩ | ⟨tb, ty, hk, k⟩
    · refine ⟨_, rfl, _, _, .ref C, .ref C, true, rfl, .own C, .base (.ins hb T.cl TC.ha TC.hn TC.htk TC.hm), TC.self, true, rfl, iteT ?_⟩
      refine ⟨_, rfl, a, C, dx, _, _, rfl, ha, T.cl, T.n1, rfl, _, rfl, b, C, dx', _, _, rfl, hb, T.cl, T.n1, rfl, _, _, .tup ht (dpAll_ints rs), .tup ht' (dpAll_ints rs'), shaped_tup rs, shaped_tup rs', decide (rs = rs'), ?_, ?_⟩
      · show V.bl (PyData.eqvAll _ _) = _
        rw [eqv_ints]
      · unfold eqT at k
        refine ite2 (fun c => ?_) (fun c => ?_)
        · rw [c, Bool.true_and] at k
          refine ⟨_, rfl, a, C, dx, _, _, rfl, ha, T.cl, T.n2, rfl, _, rfl, b, C, dx', _, _, rfl, hb, T.cl, T.n2, rfl, rfl, _, rfl, ite2 (fun c => ?_) (fun c => ?_)⟩
          · rw [c, Bool.true_and] at k
            refine ⟨_, rfl, a, C, dx, _, _, rfl, ha, T.cl, T.n3, rfl, _, rfl, b, C, dx', _, _, rfl, hb, T.cl, T.n3, rfl, rfl, _, rfl, ite2 (fun c => ?_) (fun c => ?_)⟩
            · rw [c, Bool.true_and] at k
              refine ⟨_, rfl, a, C, dx, _, _, rfl, ha, T.cl, T.n4, rfl, _, rfl, b, C, dx', _, _, rfl, hb, T.cl, T.n4, rfl, rfl, _, rfl, ite2 (fun c => ?_) (fun c => ?_)⟩
              · rw [c, Bool.true_and] at k
                exact ⟨_, rfl, a, C, dx, _, _, rfl, ha, T.cl, T.n5, rfl, _, rfl, b, C, dx', _, _, rfl, hb, T.cl, T.n5, rfl, rfl, k⟩
              · rw [Bool.eq_false_iff.mpr c] at k; exact k
            · rw [Bool.eq_false_iff.mpr c] at k; exact k
          · rw [Bool.eq_false_iff.mpr c] at k; exact k
        · rw [Bool.eq_false_iff.mpr c] at k; exact k
    · exact ⟨_, rfl, _, _, tb, .ref C, false, rfl, .own C, ty, hk, false, rfl, iteF k⟩
end
end Own

namespace Own
open PySem L2
abbrev sBag : Stmt := topT 23
abbrev sDraw : Stmt := topT 24
abbrev sOf : Stmt := topT 25
abbrev sSame : Stmt := topT 26
/-! what stood stands, but at p -/
def But (p : Addr) (H H' : Hp) : Prop := ∀ b o, b ≠ p → H b = some o → H' b = some o
theorem But.refl (p : Addr) (H : Hp) : But p H H := fun _ _ _ e => e
theorem But.trans {p : Addr} {H H1 H2 : Hp} (a : But p H H1) (b : But p H1 H2) : But p H H2 := fun c o n e => b c o n (a c o n e)
theorem But.of {p : Addr} {H H' : Hp} (a : Same H H') : But p H H' := fun c o _ e => a c o e
theorem But.upd {p : Addr} {H H' : Hp} {o : HO} (a : But p H H') : But p H (upd H' p o) := fun c u n e => by
  rw [upd_ne n]; exact a c u n e
theorem _root_.L2.Same.new {H H' : Hp} {p : Addr} {o : HO} (a : Same H H') (h : H' p = none) : Same H (upd H' p o) := fun c u e => by
  rw [upd_ne (ne_of_none (a c u e) h)]; exact a c u e
theorem _root_.L2.Same.own {H H' : Hp} {p : Addr} {o : HO} (a : Same H H') (h : H p = none) : Same H (upd H' p o) := fun c u e => by
  rw [upd_ne (ne_of_none e h)]; exact a c u e
/-- a bag of draws stands at p, its cells at c -/
def BagC (H : Hp) (p c : Addr) : Prop := ∃ (cs : List Int) (i d m : Int), H p = some (.lst [.ref c, .int i, .int d, .int m]) ∧ H c = some (.lst (cs.map V.int)) ∧ 0 ≤ i ∧ cs.length ≤ 63
def Bag (H : Hp) (p : Addr) : Prop := ∃ c, BagC H p c
theorem BagC.keep {H H' : Hp} {p c : Addr} (b : BagC H p c) (hp : ∀ o, H p = some o → H' p = some o) (hc : ∀ o, H c = some o → H' c = some o) : BagC H' p c := by
  obtain ⟨cs, i, d, m, h1, h2, h3⟩ := b
  exact ⟨cs, i, d, m, hp _ h1, hc _ h2, h3⟩
theorem BagC.same {H H' : Hp} {p c : Addr} (b : BagC H p c) (e : Same H H') : BagC H' p c := b.keep (e p) (e c)
theorem BagC.new {H : Hp} {p c l : Addr} {o : HO} (b : BagC H p c) (h : H l = none) : BagC (upd H l o) p c := b.same ((Same.refl _).new h)
theorem BagC.upd {H : Hp} {p c l : Addr} {o : HO} (b : BagC H p c) (h1 : l ≠ p) (h2 : l ≠ c) : BagC (upd H l o) p c := b.keep (fun _ e => by rw [upd_ne (Ne.symm h1)]; exact e) fun _ e => by rw [upd_ne (Ne.symm h2)]; exact e
theorem BagC.ne {H : Hp} {p c l : Addr} (b : BagC H p c) (h : H l = none) : l ≠ p ∧ l ≠ c := by
  obtain ⟨cs, i, d, m, h1, h2, _⟩ := b
  exact ⟨Ne.symm (ne_of_none h1 h), Ne.symm (ne_of_none h2 h)⟩
def spBag (K : PySem.W.Frag) : Sp := fun vs H Q _ => ∃ (a : Addr) (ns : List Int), vs = [.ref a] ∧ SqL K H a (ns.map V.int) ∧ ns.length ≤ 63 ∧ ∀ H' p, Same H H' → H p = none → Bag H' p → Q (.ref p) H'
def spDraw : Sp := fun vs H Q _ => ∃ (p : Addr) (n : Int) (c : Addr), vs = [.ref p, .int n] ∧ BagC H p c ∧ 0 < n ∧ n.natAbs < 2 ^ 200 ∧ ∀ H' r, But p H H' → BagC H' p c → 0 ≤ r → r < n → Q (.int r) H'
def spOf (K : PySem.W.Frag) : Sp := fun vs H Q _ => ∃ (p l : Addr) (xs : List V) (c : Addr), vs = [.ref p, .ref l] ∧ BagC H p c ∧ SqL K H l xs ∧ l ≠ p ∧ xs ≠ [] ∧ xs.length ≤ 1000 ∧ ∀ H' x, But p H H' → BagC H' p c → x ∈ xs → Q x H'
theorem ints_get {ns : List Int} {i : Nat} {y : V} (hi : (ns.map V.int)[i]? = some y) : ∃ u, ns[i]? = some u ∧ y = V.int u := by
  rw [List.getElem?_map] at hi
  cases e : ns[i]? with
  | none => rw [e] at hi; cases hi
  | some u => rw [e] at hi; exact ⟨u, rfl, (Option.some.inj hi).symm⟩
theorem cut_ints (ns : List Int) (lo hi : Option Int) (h : ns.length ≤ 63) : ∃ cs : List Int, cutV (ns.map V.int) lo hi = cs.map V.int ∧ cs.length ≤ 63 := by
  unfold cutV
  rw [← List.map_drop, ← List.map_take]
  refine ⟨_, rfl, ?_⟩
  rw [List.length_take, List.length_drop]
  omega
section
variable {P : Program} {w : World} {K : PySem.W.Frag} {mg : Str → Option Value} {base : Heap}
theorem scBag : FnScope ["_law_script", "_law_cells", "_law_mark", "_law_cell"] ["_law_script"] (defScope sBag) := ⟨rfl, rfl, rfl, by decide +kernel, rfl, by decide +kernel, by decide +kernel⟩
theorem ok_bag {f : Addr} {fd : FuncData} (F : Fun K "_law_bag" "_law_bag" sBag f fd) (tLen : mg "len" = none) (tInt : mg "int" = none) : FnOk P w K mg base CX0 1 f fd ["_law_script"] (spBag K) := by
  refine F.ok scBag (fun vs H Q E h => ?_) (fun cdv A outer s H vs Q E hr h => ?_)
  · obtain ⟨a, ns, rfl, _⟩ := h
    rfl
  · obtain ⟨a, ns, rfl, hS, hlen, k⟩ := h
    refine ⟨_, pss_cons (ps_setLc (i := 1) (own := [("_law_cell", 3)]) (g := gName 3) (tt := tYes) rfl scBag.nd rfl rfl (sw_true rfl rfl rfl (by decide +kernel)) (pi_list (pe_slice sl_list (pv 0) po_none (po_some pe_int))) (blkOk_by (N := ["_law_script", "_law_cells", "_law_mark", "_law_cell"]) (sc := defScope sBag) (by decide +kernel)) (fun _ _ _ _ _ => pg_name (i := 3) scBag.nd rfl (Or.inl rfl)) (fun _ _ _ _ _ => pts_nil) (fun _ _ _ _ _ => pe_callTy call_int1 (by rfl) tInt (by decide +kernel) (pa_cons (pv 3) pa_nil)))
      (pss_cons (ps_set (i := 2) scBag.nd rfl (Or.inl rfl) (pe_op op_add pe_int (pe_op op_mul pe_int (pe_callB call_len_seq (by rfl) tLen PySem.boot_len (pa_cons (pv 1) pa_nil)))))
      (pss_cons (ps_for PassesOwn.never rfl (pi_list (pv 1)) (pg_name (i := 3) scBag.nd rfl (Or.inl rfl))
        (pss_one (ps_set (i := 2) scBag.nd rfl (Or.inl rfl) (pe_op op_mod (pe_callTy call_int1 (by rfl) tInt (by decide +kernel) (pa_cons (pe_op op_add (pe_op op_mul (pv 2) pe_int) (pv 3)) pa_nil)) pe_int))))
      (pss_one (ps_ret (pe_lst (pa_cons (pv 1) (pa_cons pe_int (pa_cons pe_int (pa_cons (pv 2) pa_nil))))))))), ?_⟩
    refine ⟨_, rfl, 63, rfl, a, _, rfl, hS, fun p hp => ?_⟩
    obtain ⟨cs, ecs, hcs⟩ := cut_ints ns none (some 63) hlen
    rw [ecs]
    have s1 : Same H (upd H p (.lst (cs.map V.int))) := (Same.refl H).new hp
    refine ⟨_, rfl, ⟨_, SqL.of upd_same⟩, fun D hD => lc_list (K := K) (a := p) (xs := cs.map V.int) (fun i H' => Same (upd H p (.lst (cs.map V.int))) H' ∧ H' D = some (.lst ((cs.map V.int).take i))) ⟨(Same.refl _).new hD, upd_same⟩ (fun i H' _ q => .inl (.inl (q.1 _ _ upd_same))) ?_ ?_⟩
    · intro i y H' hi q
      obtain ⟨u, hu, rfl⟩ := ints_get hi
      have hl : i < 63 := by
        have := (List.getElem?_eq_some_iff.mp hu).1
        omega
      refine ⟨rfl, ⟨_, rfl, .inl ⟨_, rfl, _, q.2, ?_, q.1.own hD, ?_⟩⟩⟩
      · rw [List.length_take]
        exact Nat.lt_of_le_of_lt (Nat.min_le_left _ _) (Nat.lt_trans hl (by decide))
      · rw [upd_same, List.take_add_one, hi]
        rfl
    · intro H1 q
      obtain ⟨q1, q2⟩ := q
      rw [List.take_length] at q2
      have s2 : Same H H1 := s1.trans q1
      have nD : H D = none := s1.free hD
      refine ⟨_, rfl, D, _, rfl, .inl (SqL.of q2), _, _, rfl, rfl, .inl ⟨by decide, by decide⟩, _, _, rfl, rfl, ?_⟩
      refine ⟨_, rfl, D, rfl, ⟨_, SqL.of q2⟩, for_list (K := K) (a := D) (xs := cs.map V.int) (fun i σ H' => ∃ (m : Int) (v : Option V), σ = [some (.ref a), some (.ref D), some (.int m), v] ∧ H' = H1) ⟨_, _, rfl, rfl⟩ ?_ ?_ ?_⟩
      · rintro i σ H' _ ⟨m, v, rfl, rfl⟩
        exact SqL.of q2
      · rintro i y σ H' hi ⟨m, v, rfl, rfl⟩
        obtain ⟨u, hu, rfl⟩ := ints_get hi
        exact ⟨_, rfl, _, _, rfl, rfl, .inr ⟨by decide, by decide⟩, _, rfl, _, _, rfl, rfl, .inl ⟨_, rfl, _, _, rfl, rfl, by show (0 : Int) < 2147483477; decide, _, _, rfl, rfl⟩⟩
      · rintro σ H' ⟨m, v, rfl, rfl⟩
        refine ⟨_, rfl, _, rfl, by show 4 ≤ sizeLine; decide, fun l hl => ?_⟩
        have nDl : D ≠ l := ne_of_none q2 hl
        exact k _ l (s2.new hl) (s2.free hl) ⟨D, cs, 0, 0, m, upd_same, by rw [upd_ne nDl]; exact q2, by decide, hcs⟩
theorem scDraw : FnScope ["_law_bag_here", "_law_many", "_law_cell", "_law_first", "_law_second", "_law_digit"] ["_law_bag_here", "_law_many"] (defScope sDraw) := ⟨rfl, rfl, rfl, by decide +kernel, rfl, by decide +kernel, by decide +kernel⟩
theorem atI_nat' {xs : List V} {i : Int} {j : Nat} {v : V} (e : i = (j : Int)) (h : xs[j]? = some v) : atI xs i = some v := at_of e h
theorem ok_draw {f : Addr} {fd : FuncData} (F : Fun K "_law_draw" "_law_draw" sDraw f fd) (tLen : mg "len" = none) (tInt : mg "int" = none) : FnOk P w K mg base CX0 1 f fd ["_law_bag_here", "_law_many"] spDraw := by
  refine F.ok scDraw (fun vs H Q E h => ?_) (fun cdv A outer s H vs Q E hr h => ?_)
  · obtain ⟨p, n, c, rfl, _⟩ := h
    rfl
  · obtain ⟨p, n, c, rfl, ⟨cs, i, d, m, hp, hc, hi, hcs⟩, hn, hn2, k⟩ := h
    have nd := scDraw.nd
    refine ⟨_, Evl.pss_cut (ps_if (pt_cmpR op_lt (pe_ix ix_list (pv 0) pe_int (fun _ _ => rfl)) pe_int (nomark _))
        (pss_cons (ps_asg (pe_op op_add (pe_ix ix_list (pv 0) pe_int (fun _ _ => rfl)) pe_int) (pg_sub (pv 0) pe_int set_list))
        (pss_cons (ps_set (i := 2) nd rfl (Or.inl rfl) (pe_op op_add (pe_ix ix_list (pv 0) pe_int (fun _ _ => rfl)) (pe_op op_mul (pe_ix ix_list (pv 0) pe_int (fun _ _ => rfl)) pe_int)))
        (Evl.pss_cut (ps_if (pt_cmpR op_le (pe_ix ix_list (pv 0) pe_int (fun _ _ => rfl)) (pe_callB call_len_seq (by rfl) tLen PySem.boot_len (pa_cons (pe_ix ix_list (pv 0) pe_int (fun _ _ => rfl)) pa_nil)) (nomark _))
          (pss_one (ps_set (i := 2) nd rfl (Or.inl rfl) (pe_ix ix_list (pe_ix ix_list (pv 0) pe_int (fun _ _ => rfl)) (pe_op op_sub (pe_ix ix_list (pv 0) pe_int (fun _ _ => rfl)) pe_int) (fun _ _ => rfl)))) pss_nil)
        (pss_cons (ps_if (PW.pt (pw_or (pt_cmpR op_gt (pe_ix ix_list (pv 0) pe_int (fun _ _ => rfl)) (pe_callB call_len_seq (by rfl) tLen PySem.boot_len (pa_cons (pe_ix ix_list (pv 0) pe_int (fun _ _ => rfl)) pa_nil)) (nomark _)) (pw_or1 (pt_cmpR op_lt (pv 2) (pe_op op_pow pe_int pe_int) (nomark _)))))
          (pss_cons (ps_set (i := 3) nd rfl (Or.inl rfl) (pe_op op_mod (pe_callTy call_int1 (by rfl) tInt (by decide +kernel) (pa_cons (pe_op op_add (pe_op op_add (pe_op op_mul (pv 2) pe_int) (pe_op op_mul (pe_ix ix_list (pv 0) pe_int (fun _ _ => rfl)) pe_int)) (pe_ix ix_list (pv 0) pe_int (fun _ _ => rfl))) pa_nil)) pe_int))
          (pss_cons (ps_set (i := 4) nd rfl (Or.inl rfl) (pe_op op_mod (pe_callTy call_int1 (by rfl) tInt (by decide +kernel) (pa_cons (pe_op op_add (pe_op op_mul (pv 3) (pv 3)) (pe_op op_mul (pe_ix ix_list (pv 0) pe_int (fun _ _ => rfl)) pe_int)) pa_nil)) pe_int))
          (pss_one (ps_ret (pe_op op_mod (pe_op op_fdiv (pe_op op_mod (pe_callTy call_int1 (by rfl) tInt (by decide +kernel) (pa_cons (pe_op op_add (pe_op op_mul (pv 4) pe_int) (pv 3)) pa_nil)) pe_int) pe_int) (pv 1)))))) pss_nil)
        (pss_one (ps_asg (pv 2) (pg_sub (pv 0) pe_int set_list))))))) pss_nil)
      (pss_cons (ps_set (i := 5) nd rfl (Or.inl rfl) (pe_op op_mod (pe_callTy call_int1 (by rfl) tInt (by decide +kernel) (pa_cons (pe_ix ix_list (pv 0) pe_int (fun _ _ => rfl)) pa_nil)) (pv 1)))
      (pss_cons (ps_asg (pe_op op_fdivW (pe_callTy call_int1 (by rfl) tInt (by decide +kernel) (pa_cons (pe_ix ix_list (pv 0) pe_int (fun _ _ => rfl)) pa_nil)) (pv 1)) (pg_sub (pv 0) pe_int set_list))
      (pss_one (ps_ret (pv 5))))), ?_⟩
    have ncp : c ≠ p := ne_of hc hp (fun z => by cases cs with | nil => cases z | cons x xs => cases z)
    have e18 : (10 : Int) ^ (18 : Int).toNat = 1000000000000000000 := by decide
    refine ⟨fun σ' H' => ∃ (x y z : Option V) (i' d' : Int), σ' = [some (.ref p), some (.int n), x, y, z, none] ∧ But p H H' ∧ H' p = some (.lst [.ref c, .int i', .int d', .int m]) ∧ 0 ≤ i', ?_, ?_⟩
    · refine ⟨_, rfl, p, _, _, _, rfl, rfl, SqL.of hp, rfl, _, _, rfl, rfl, _, rfl, ite2 (fun _ => ?_) (fun _ => ?_)⟩
      · refine ⟨_, rfl, p, _, _, _, rfl, rfl, SqL.of hp, rfl, _, _, rfl, rfl, _, rfl, p, _, _, 1, rfl, rfl, hp, rfl, ?_⟩
        have b1 : But p H (upd H p (.lst [.ref c, .int (i + 1), .int d, .int m])) := (But.refl p H).upd
        generalize hH : upd H p (.lst [.ref c, .int (i + 1), .int d, .int m]) = H1 at b1
        have hp1 : H1 p = some (.lst [.ref c, .int (i + 1), .int d, .int m]) := by rw [← hH]; exact upd_same
        have hc1 : H1 c = some (.lst (cs.map V.int)) := b1 c _ ncp hc
        show tSeq _ _ _ _ (upd H p (.lst [.ref c, .int (i + 1), .int d, .int m]))
        rw [hH]
        refine ⟨_, rfl, p, _, _, _, rfl, rfl, SqL.of hp1, rfl, _, rfl, p, _, _, _, rfl, rfl, SqL.of hp1, rfl, _, _, rfl, rfl, .inr ⟨by decide, by decide⟩, _, _, rfl, rfl, ?_⟩
        refine ⟨fun σ' H' => ∃ (x : Int), σ' = [some (.ref p), some (.int n), some (.int x), none, none, none] ∧ H' = H1, ?_, ?_⟩
        · refine ⟨_, rfl, p, _, _, _, rfl, rfl, SqL.of hp1, rfl, _, rfl, p, _, _, _, rfl, rfl, SqL.of hp1, rfl, c, _, rfl, .inl (SqL.of hc1), _, _, rfl, rfl, _, rfl, ite2 (fun hle => ?_) (fun _ => ⟨_, rfl, rfl⟩)⟩
          have hle := of_decide_eq_true hle
          rw [List.length_map] at hle
          have hlt : i.toNat < cs.length := by omega
          refine ⟨_, rfl, p, _, _, _, rfl, rfl, SqL.of hp1, rfl, _, rfl, p, _, _, _, rfl, rfl, SqL.of hp1, rfl, _, _, rfl, rfl, c, _, _, .int cs[i.toNat], rfl, rfl, SqL.of hc1, atI_nat' (j := i.toNat) (by omega) (by rw [List.getElem?_map, List.getElem?_eq_getElem hlt]; rfl), ?_⟩
          exact ⟨_, rfl, rfl⟩
        · rintro σ' H' ⟨x, rfl, rfl⟩
          refine ⟨_, rfl, p, _, _, _, rfl, rfl, SqL.of hp1, rfl, _, rfl, p, _, _, _, rfl, rfl, SqL.of hp1, rfl, c, _, rfl, .inl (SqL.of hc1), _, _, rfl, rfl, _, rfl, ite2 (fun _ => iteT ?_) (fun _ => ⟨_, rfl, _, _, rfl, rfl, ⟨by decide, by decide, by decide⟩, _, _, rfl, rfl, _, rfl, ite2 (fun _ => ?_) (fun _ => ?_)⟩)⟩
          iterate 2
            refine ⟨_, rfl, _, _, rfl, rfl, .inr ⟨by decide, by decide⟩, _, rfl, p, _, _, _, rfl, rfl, SqL.of hp1, rfl, _, _, rfl, rfl, .inr ⟨by decide, by decide⟩, _, _, rfl, rfl, _, rfl, p, _, _, _, rfl, rfl, SqL.of hp1, rfl, _, _, rfl, rfl, .inl ⟨_, rfl, _, _, rfl, rfl, by show (0 : Int) < 2147483629; decide, ?_⟩⟩
            generalize x * 42061 + (i + 1) * 37021 + m = y
            have y0 := Int.emod_nonneg y (show (2147483629 : Int) ≠ 0 by decide)
            have y1 := Int.emod_lt_of_pos y (show (0 : Int) < 2147483629 by decide)
            refine ⟨_, rfl, _, rfl, _, _, rfl, rfl, .inl ⟨by omega, by omega⟩, _, rfl, p, _, _, _, rfl, rfl, SqL.of hp1, rfl, _, _, rfl, rfl, .inr ⟨by decide, by decide⟩, _, _, rfl, rfl, .inl ⟨_, rfl, _, _, rfl, rfl, by show (0 : Int) < 998244353; decide, ?_⟩⟩
            refine ⟨_, rfl, _, _, rfl, rfl, .inr ⟨by decide, by decide⟩, _, rfl, _, _, rfl, rfl, .inl ⟨_, rfl, _, _, rfl, rfl, by show (0 : Int) < 2147483587; decide, _, _, rfl, rfl, ⟨by decide, by decide⟩, _, rfl, _, _, rfl, rfl, hn, ?_⟩⟩
            exact k _ _ b1 ⟨cs, _, _, _, hp1, hc1, by omega, hcs⟩ (Int.emod_nonneg _ (by omega)) (Int.emod_lt_of_pos _ hn)
          exact ⟨_, rfl, _, rfl, p, _, _, 2, rfl, rfl, hp1, rfl, _, _, _, i + 1, x, rfl, b1.upd, upd_same, by omega⟩
      · exact ⟨none, none, none, i, d, rfl, But.refl p H, hp, hi⟩
    · rintro σ' H' ⟨x, y, z, i', d', rfl, b1, hp1, hi1⟩
      refine ⟨_, rfl, p, _, _, _, rfl, rfl, SqL.of hp1, rfl, .inl ⟨_, rfl, _, rfl, _, _, rfl, rfl, hn, ?_⟩⟩
      refine ⟨_, rfl, p, _, _, _, rfl, rfl, SqL.of hp1, rfl, .inl ⟨_, rfl, _, rfl, _, _, rfl, rfl, wide_div hn hn2 (by decide) (by decide), _, rfl, p, _, _, 2, rfl, rfl, hp1, rfl, ?_⟩⟩
      exact ⟨_, rfl, k _ _ b1.upd ⟨cs, i', _, m, upd_same, by rw [upd_ne ncp]; exact b1 c _ ncp hc, hi1, hcs⟩ (Int.emod_nonneg _ (by omega)) (Int.emod_lt_of_pos _ hn)⟩
theorem but_seq {K : PySem.W.Frag} {H H' : Hp} {p a : Addr} {xs : List V} (e : But p H H') (n : a ≠ p) (h : SqL K H a xs) : SqL K H' a xs := by
  rcases h with (h | ⟨o, h⟩) | h
  · exact .inl (.inl (e _ _ n h))
  · exact .inl (.inr ⟨o, e _ _ n h⟩)
  · exact .inr h
theorem scOf : FnScope ["_law_bag_here", "_law_some"] ["_law_bag_here", "_law_some"] (defScope sOf) := ⟨rfl, rfl, rfl, by decide +kernel, rfl, by decide +kernel, by decide +kernel⟩
theorem ok_of {f fD : Addr} {fd fdD : FuncData} (F : Fun K "_law_of" "_law_of" sOf f fd) (G : FnOk P w K mg base CX0 1 fD fdD ["_law_bag_here", "_law_many"] spDraw) (mD : mg "_law_draw" = some (.ref fD)) (kD : PySem.W.keepIn K (.ref fD) = true) (bD : Binds K fdD ["_law_bag_here", "_law_many"] []) (tLen : mg "len" = none) : FnOk P w K mg base CX0 2 f fd ["_law_bag_here", "_law_some"] (spOf K) := by
  refine F.ok scOf (fun vs H Q E h => ?_) (fun cdv A outer s H vs Q E hr h => ?_)
  · obtain ⟨p, l, xs, c, rfl, _⟩ := h
    rfl
  · obtain ⟨p, l, xs, c, rfl, hb, hl, nlp, hx, hz, k⟩ := h
    refine ⟨_, pss_one (ps_ret (pe_ix ix_list (pv 1) (pe_call G hr rfl mD kD bD .nil pass0 (pa_cons (pv 0) (pa_cons (pe_callB call_len_seq (by rfl) tLen PySem.boot_len (pa_cons (pv 1) pa_nil)) pa_nil))) (fun _ _ => rfl))), ?_⟩
    have h0 : 0 < xs.length := List.length_pos_iff.mpr hx
    refine ⟨_, rfl, _, rfl, _, rfl, l, _, rfl, .inl hl, p, _, c, rfl, hb, by omega, ?_, fun H' r b1 b2 r0 r1 => ?_⟩
    · have : (2:Nat) ^ 200 > 1000 := by decide
      omega
    · have hr : r.toNat < xs.length := by omega
      exact ⟨l, xs, r, xs[r.toNat], rfl, rfl, but_seq b1 nlp hl, at_of (j := r.toNat) (by omega) (List.getElem?_eq_getElem hr), k _ _ b1 b2 (List.getElem_mem hr)⟩
/-! comprehensions over what is walked in a known number of turns -/
theorem lc_any {J : It} {n : Nat} {g : TG} {tt : TT} {te : TE} {vs : List Nat} {σ : L2.St} {H1 : Hp} {D : Addr} {Qd : Hp → Prop} (Pv : Nat → Hp → Prop) (h0 : Pv 0 (upd H1 D (.lst [])))
    (hs : ∀ i H, i < n → Pv i H → J.go i H ∧ ∀ x H', J.yld i H x H' → g x (wipe σ vs) H' fun σ2 H2 => wipe σ2 vs = wipe σ vs ∧ tt σ2 H2 fun b H3 => if b = true then te σ2 H3 fun y H4 => ∃ acc, H4 D = some (.lst acc) ∧ acc.length < sizeLine ∧ Pv (i + 1) (upd H4 D (.lst (acc ++ [y]))) else Pv (i + 1) H3)
    (hd : ∀ H, Pv n H → J.stop n H ∧ Qd H) : ∃ W : Nat → Nat → Hp → Prop, (∃ m, W 0 m (upd H1 D (.lst []))) ∧ ∀ i m H, W i m H → (J.stop i H ∧ Qd H) ∨ (J.go i H ∧ ∃ Nx : Hp → Prop, (∀ H', Nx H' → ∃ m', m' < m ∧ W (i + 1) m' H') ∧ ∀ x H', J.yld i H x H' → g x (wipe σ vs) H' fun σ2 H2 => wipe σ2 vs = wipe σ vs ∧ tt σ2 H2 fun b H3 =>
      if b = true then te σ2 H3 fun y H4 => ∃ acc, H4 D = some (.lst acc) ∧ acc.length < sizeLine ∧ Nx (upd H4 D (.lst (acc ++ [y]))) else Nx H3) := by
  refine ⟨fun i m H => m + i = n ∧ Pv i H, ⟨n, rfl, h0⟩, fun i m H ⟨e, p⟩ => ?_⟩
  rcases Nat.lt_or_ge i n with l | l
  · obtain ⟨q1, q2⟩ := hs i H l p
    exact .inr ⟨q1, Pv (i + 1), fun H' p' => ⟨n - (i + 1), by omega, by omega, p'⟩, q2⟩
  · obtain rfl : i = n := by omega
    exact .inl (hd H p)
theorem go_zipL {K : PySem.W.Frag} {a b : Addr} {xs ys : List V} {H : Hp} {i : Nat} (hl : xs.length = ys.length) (h : i < xs.length) (h1 : SqL K H a xs) (h2 : SqL K H b ys) : (Itz K a b).go i H ∧ ∀ v H', (Itz K a b).yld i H v H' → ∃ T x y, v = .ref T ∧ H T = none ∧ H' = upd H T (.tup [x, y]) ∧ xs[i]? = some x ∧ ys[i]? = some y :=
  ⟨⟨xs, ys, _, _, h1, h2, List.getElem?_eq_getElem h, List.getElem?_eq_getElem (hl ▸ h)⟩, fun v H' ⟨T, x, y, e1, hT, e2, f1, f2⟩ => ⟨T, x, y, e1, hT, e2, f1 _ h1, f2 _ h2⟩⟩
theorem go_zipT {K : PySem.W.Frag} {a b : Addr} {xs ys : List V} {H : Hp} {i : Nat} (hl : xs.length = ys.length) (h : i < xs.length) (h1 : SqT K H a xs) (h2 : SqT K H b ys) : (RZ.ItzT K a b).go i H ∧ ∀ v H', (RZ.ItzT K a b).yld i H v H' → ∃ T x y, v = .ref T ∧ H T = none ∧ H' = upd H T (.tup [x, y]) ∧ xs[i]? = some x ∧ ys[i]? = some y :=
  ⟨⟨xs, ys, _, _, h1, h2, List.getElem?_eq_getElem h, List.getElem?_eq_getElem (hl ▸ h)⟩, fun v H' ⟨T, x, y, e1, hT, e2, f1, f2⟩ => ⟨T, x, y, e1, hT, e2, f1 _ h1, f2 _ h2⟩⟩
/-! data, by depth -/
inductive Shal : Nat → PyData → Prop where
  | non {n} : Shal n .none
  | bl {n} (b : Bool) : Shal n (.bool b)
  | int {n} (i : Int) : Shal n (.int i)
  | str {n} (z : Str) : Shal n (.str z)
  | lst {n} {ds : List PyData} (h : ∀ d, d ∈ ds → Shal n d) (l : ds.length ≤ 1000) : Shal (n + 1) (.list ds)
  | tup {n} {ds : List PyData} (h : ∀ d, d ∈ ds → Shal n d) (l : ds.length ≤ 1000) : Shal (n + 1) (.tuple ds)
theorem same_t {K : PySem.W.Frag} {H H' : Hp} {a : Addr} {xs : List V} (e : Same H H') (h : SqT K H a xs) : SqT K H' a xs := by
  rcases h with (h | ⟨o, h⟩) | h
  · exact .inl (.inl (e _ _ h))
  · exact .inl (.inr ⟨o, e _ _ h⟩)
  · exact .inr h
mutual
theorem dp_same {K : PySem.W.Frag} {H H' : Hp} (e : Same H H') : ∀ (d : PyData) (v : V), Dp K H v d → Dp K H' v d
  | .none, v, h => by cases h; exact .non
  | .bool b, v, h => by cases h; exact .bl b
  | .int i, v, h => by cases h; exact .int i
  | .str z, v, h => by cases h; exact .str z
  | .list ds, v, h => by
    cases h with
    | lst h1 h2 => exact .lst (e.seq h1) (dpAll_same e ds _ h2)
  | .tuple ds, v, h => by
    cases h with
    | tup h1 h2 => exact .tup (same_t e h1) (dpAll_same e ds _ h2)
  | .dict kvs, v, h => by cases h
theorem dpAll_same {K : PySem.W.Frag} {H H' : Hp} (e : Same H H') : ∀ (ds : List PyData) (vs : List V), DpAll K H vs ds → DpAll K H' vs ds
  | [], vs, h => by cases h; exact .nil
  | d :: ds, vs, h => by
    cases h with
    | cons h1 h2 => exact .cons (dp_same e d _ h1) (dpAll_same e ds _ h2)
end
theorem dpAll_len {K : PySem.W.Frag} {H : Hp} : ∀ (ds : List PyData) (vs : List V), DpAll K H vs ds → vs.length = ds.length
  | [], vs, h => by cases h; rfl
  | d :: ds, vs, h => by
    cases h with
    | cons h1 h2 => rw [List.length_cons, List.length_cons, dpAll_len ds _ h2]
theorem dpAll_get {K : PySem.W.Frag} {H : Hp} : ∀ (ds : List PyData) (vs : List V) (i : Nat) (v : V), DpAll K H vs ds → vs[i]? = some v → ∃ d, ds[i]? = some d ∧ Dp K H v d
  | [], vs, i, v, h, e => by cases h; cases e
  | d :: ds, vs, 0, v, h, e => by
    cases h with
    | cons h1 h2 => cases e; exact ⟨d, rfl, h1⟩
  | d :: ds, vs, i + 1, v, h, e => by
    cases h with
    | cons h1 h2 => exact dpAll_get ds _ i v h2 e
theorem sqL_ty {K : PySem.W.Frag} {H : Hp} {a : Addr} {xs : List V} (h : SqL K H a xs) : TyX K H (.ref a) (.type "list") := by
  rcases h with (h | ⟨o, h⟩) | ⟨o, its, n, h, hc, _⟩
  · exact .base (.lst h)
  · exact .base (.frz h)
  · exact .kList h hc
theorem sqT_ty {K : PySem.W.Frag} {H : Hp} {a : Addr} {xs : List V} (h : SqT K H a xs) : TyX K H (.ref a) (.type "tuple") := by
  rcases h with (h | ⟨o, h⟩) | ⟨o, its, n, h, hc, _⟩
  · exact .base (.tup h)
  · exact .fTuple h
  · exact .kTuple h hc
def spSame (K : PySem.W.Frag) (n : Nat) : Sp := fun vs H Q _ => ∃ (x y : V) (d : PyData) (m : Nat), vs = [x, y] ∧ Dp K H x d ∧ Dp K H y d ∧ n = m + 1 ∧ Shal m d ∧ ∀ H', Same H H' → Q (.bl true) H'
/-- what the laws ask of the built-in names -/
structure Blt (mg : Str → Option Value) : Prop where
  len : mg "len" = none
  int : mg "int" = none
  isi : mg "isinstance" = none
  bool : mg "bool" = none
  str : mg "str" = none
  list : mg "list" = none
  tuple : mg "tuple" = none
  all : mg "all" = none
  zip : mg "zip" = none
theorem scSame : FnScope ["_law_found", "_law_due", "_law_one", "_law_two"] ["_law_found", "_law_due"] (defScope sSame) := ⟨rfl, rfl, rfl, by decide +kernel, rfl, by decide +kernel, by decide +kernel⟩
theorem ok_same_step {n : Nat} {f : Addr} {fd : FuncData} (F : Fun K "_law_same" "_law_same" sSame f fd) (G : FnOk P w K mg base CX0 n f fd ["_law_found", "_law_due"] (spSame K n)) (mS : mg "_law_same" = some (.ref f)) (bS : Binds K fd ["_law_found", "_law_due"] []) (B : Blt mg) :
    FnOk P w K mg base CX0 (n + 1) f fd ["_law_found", "_law_due"] (spSame K (n + 1)) := by
  refine F.ok scSame (fun vs H Q E h => ?_) (fun cdv A outer s H vs Q E hr h => ?_)
  · obtain ⟨x, y, d, m, rfl, _⟩ := h
    rfl
  · obtain ⟨x, y, d, m, rfl, hx, hy, hnm, hs, k⟩ := h
    obtain rfl : n = m := Nat.succ.inj hnm
    refine ⟨_, pss_cons (ps_if (pt_cmp (pc_isN (pv 1))) (pss_one (ps_ret (pe_cmp (pc_isN (pv 0)) rfl))) pss_nil)
      (pss_cons (ps_if (PW.pt (pw_or (pt_val (pe_callB call_isi (by rfl) B.isi (by decide +kernel) (pa_cons (pv 1) (pa_cons (pe_bltn (v := .ty "bool") (by rfl) B.bool (by decide +kernel) rfl) pa_nil)))) (pw_or1 (pt_val (pe_callB call_isi (by rfl) B.isi (by decide +kernel) (pa_cons (pv 0) (pa_cons (pe_bltn (v := .ty "bool") (by rfl) B.bool (by decide +kernel) rfl) pa_nil)))))))
        (pss_one (ps_ret (pe_and (pe_callB call_isi (by rfl) B.isi (by decide +kernel) (pa_cons (pv 1) (pa_cons (pe_bltn (v := .ty "bool") (by rfl) B.bool (by decide +kernel) rfl) pa_nil))) (pe_and (pe_callB call_isi (by rfl) B.isi (by decide +kernel) (pa_cons (pv 0) (pa_cons (pe_bltn (v := .ty "bool") (by rfl) B.bool (by decide +kernel) rfl) pa_nil))) (pe_one (pe_cmpR op_eq (pv 0) (pv 1) (nomark _))))))) pss_nil)
      (pss_cons (ps_if (pt_val (pe_callB call_isiT (by rfl) B.isi (by decide +kernel) (pa_cons (pv 1) (pa_cons (pe_tup (pa_cons (pe_bltn (v := .ty "int") (by rfl) B.int (by decide +kernel) rfl) (pa_cons (pe_bltn (v := .ty "str") (by rfl) B.str (by decide +kernel) rfl) pa_nil))) pa_nil))))
        (pss_one (ps_ret (pe_and (pe_callB call_isiT (by rfl) B.isi (by decide +kernel) (pa_cons (pv 0) (pa_cons (pe_tup (pa_cons (pe_bltn (v := .ty "int") (by rfl) B.int (by decide +kernel) rfl) (pa_cons (pe_bltn (v := .ty "str") (by rfl) B.str (by decide +kernel) rfl) pa_nil))) pa_nil)))
          (pe_and (pe_cmpR op_eq (pe_callB call_isi (by rfl) B.isi (by decide +kernel) (pa_cons (pv 0) (pa_cons (pe_bltn (v := .ty "int") (by rfl) B.int (by decide +kernel) rfl) pa_nil))) (pe_callB call_isi (by rfl) B.isi (by decide +kernel) (pa_cons (pv 1) (pa_cons (pe_bltn (v := .ty "int") (by rfl) B.int (by decide +kernel) rfl) pa_nil))) (nomark _)) (pe_one (pe_cmpR op_eq (pv 0) (pv 1) (nomark _))))))) pss_nil)
      (pss_cons (ps_if (PW.pt (pw_or (pt_cmpR op_ne (pe_callB call_isi (by rfl) B.isi (by decide +kernel) (pa_cons (pv 1) (pa_cons (pe_bltn (v := .ty "list") (by rfl) B.list (by decide +kernel) rfl) pa_nil))) (pe_callB call_isi (by rfl) B.isi (by decide +kernel) (pa_cons (pv 0) (pa_cons (pe_bltn (v := .ty "list") (by rfl) B.list (by decide +kernel) rfl) pa_nil))) (nomark _)) (pw_or1 (pt_cmpR op_ne (pe_callB call_isi (by rfl) B.isi (by decide +kernel) (pa_cons (pv 1) (pa_cons (pe_bltn (v := .ty "tuple") (by rfl) B.tuple (by decide +kernel) rfl) pa_nil))) (pe_callB call_isi (by rfl) B.isi (by decide +kernel) (pa_cons (pv 0) (pa_cons (pe_bltn (v := .ty "tuple") (by rfl) B.tuple (by decide +kernel) rfl) pa_nil))) (nomark _)))))
        (pss_one (ps_ret pe_bl)) pss_nil)
      (pss_one (ps_ret (pe_and (pe_cmpR op_eq (pe_callB call_len_seq (by rfl) B.len PySem.boot_len (pa_cons (pv 0) pa_nil)) (pe_callB call_len_seq (by rfl) B.len PySem.boot_len (pa_cons (pv 1) pa_nil)) (nomark _))
        (pe_one (pe_callB (cr_all rfl) (by rfl) B.all (by decide +kernel) (pa_cons
          (pe_lc (own := [("_law_one", 2), ("_law_two", 3)]) (g := gTup K 2 (gCons (gName 2) (gCons (gName 3) gNil))) (tt := tYes) rfl scSame.nd (RZ.pi_zipA (by rfl) B.zip (pa_cons (pv 0) (pa_cons (pv 1) pa_nil))) (blkOk_by (N := ["_law_found", "_law_due", "_law_one", "_law_two"]) (sc := defScope sSame) (by decide +kernel))
            (fun _ _ _ _ _ => pg_tup rfl (pgs_cons (pg_name (i := 2) scSame.nd rfl (.inl rfl) (hf := Or.inr rfl)) (pgs_cons (pg_name (i := 3) scSame.nd rfl (.inl rfl) (hf := Or.inr rfl)) pgs_nil))) (fun _ _ _ _ _ => pts_nil) (fun _ _ _ _ _ => pe_call G (hr.mono (by omega)) rfl mS F.kp bS .nil pass0 (pa_cons (pv 2) (pa_cons (pv 3) pa_nil)))) pa_nil))))))))), ?_⟩
    cases hs with
    | non =>
      cases hx; cases hy
      exact ⟨_, rfl, true, rfl, iteT ⟨_, rfl, k _ (Same.refl _)⟩⟩
    | bl b =>
      cases hx; cases hy
      refine ⟨_, rfl, false, rfl, iteF ?_⟩
      refine ⟨_, rfl, _, _, .type "bool", .type "bool", true, rfl, .ty _, .base (.bl b), kit_ty (by decide +kernel), true, rfl, iteT (iteT ?_)⟩
      refine ⟨_, rfl, _, _, .type "bool", .type "bool", true, rfl, .ty _, .base (.bl b), kit_ty (by decide +kernel), true, rfl, iteT ?_⟩
      refine ⟨_, rfl, _, _, .type "bool", .type "bool", true, rfl, .ty _, .base (.bl b), kit_ty (by decide +kernel), true, rfl, iteT ?_⟩
      refine ⟨_, rfl, _, rfl, rfl, ?_⟩
      rw [decide_eq_true rfl]
      exact k _ (Same.refl _)
    | int i =>
      cases hx; cases hy
      refine ⟨_, rfl, false, rfl, iteF ?_⟩
      refine ⟨_, rfl, _, _, .type "int", .type "bool", false, rfl, .ty _, .base (.int i), kit_ty (by decide +kernel), false, rfl, iteF ?_⟩
      refine ⟨_, rfl, _, _, .type "int", .type "bool", false, rfl, .ty _, .base (.int i), kit_ty (by decide +kernel), false, rfl, iteF ?_⟩
      refine ⟨_, rfl, by show 2 ≤ sizeLine; decide, fun t ht => ⟨_, t, _, .type "int", [.type "int", .type "str"], true, rfl, upd_same, .cons (.ty _) (.cons (.ty _) .nil), .base (.int i), kitAny_cons (b := true) (kit_ty (by decide +kernel)) (fun z => nomatch z) (fun _ => rfl), true, rfl, iteT ?_⟩⟩
      refine ⟨_, rfl, by show 2 ≤ sizeLine; decide, fun u hu => ⟨_, u, _, .type "int", [.type "int", .type "str"], true, rfl, upd_same, .cons (.ty _) (.cons (.ty _) .nil), .base (.int i), kitAny_cons (b := true) (kit_ty (by decide +kernel)) (fun z => nomatch z) (fun _ => rfl), true, rfl, iteT ?_⟩⟩
      refine ⟨_, rfl, _, _, .type "int", .type "int", true, rfl, .ty _, .base (.int i), kit_ty (by decide +kernel), ?_⟩
      refine ⟨_, rfl, _, _, .type "int", .type "int", true, rfl, .ty _, .base (.int i), kit_ty (by decide +kernel), rfl, true, rfl, iteT ?_⟩
      refine ⟨_, rfl, _, rfl, rfl, ?_⟩
      rw [decide_eq_true rfl]
      exact k _ (((Same.refl _).new ht).new hu)
    | str z =>
      cases hx; cases hy
      refine ⟨_, rfl, false, rfl, iteF ?_⟩
      refine ⟨_, rfl, _, _, .type "str", .type "bool", false, rfl, .ty _, .base (.str z), kit_ty (by decide +kernel), false, rfl, iteF ?_⟩
      refine ⟨_, rfl, _, _, .type "str", .type "bool", false, rfl, .ty _, .base (.str z), kit_ty (by decide +kernel), false, rfl, iteF ?_⟩
      refine ⟨_, rfl, by show 2 ≤ sizeLine; decide, fun t ht => ⟨_, t, _, .type "str", [.type "int", .type "str"], true, rfl, upd_same, .cons (.ty _) (.cons (.ty _) .nil), .base (.str z), kitAny_cons (b := false) (kit_ty (by decide +kernel)) (fun _ => kitAny_cons (b := true) (kit_ty (by decide +kernel)) (fun z => nomatch z) (fun _ => rfl)) (fun z => nomatch z), true, rfl, iteT ?_⟩⟩
      refine ⟨_, rfl, by show 2 ≤ sizeLine; decide, fun u hu => ⟨_, u, _, .type "str", [.type "int", .type "str"], true, rfl, upd_same, .cons (.ty _) (.cons (.ty _) .nil), .base (.str z), kitAny_cons (b := false) (kit_ty (by decide +kernel)) (fun _ => kitAny_cons (b := true) (kit_ty (by decide +kernel)) (fun z => nomatch z) (fun _ => rfl)) (fun z => nomatch z), true, rfl, iteT ?_⟩⟩
      refine ⟨_, rfl, _, _, .type "str", .type "int", false, rfl, .ty _, .base (.str z), kit_ty (by decide +kernel), ?_⟩
      refine ⟨_, rfl, _, _, .type "str", .type "int", false, rfl, .ty _, .base (.str z), kit_ty (by decide +kernel), rfl, true, rfl, iteT ?_⟩
      refine ⟨_, rfl, _, rfl, rfl, ?_⟩
      rw [decide_eq_true rfl]
      exact k _ (((Same.refl _).new ht).new hu)
    | lst h l =>
      cases hx with
      | lst h1 h2 =>
      cases hy with
      | lst h3 h4 =>
      rename_i ds a xs b ys
      have ex := dpAll_len _ _ h2
      have ey := dpAll_len _ _ h4
      refine ⟨_, rfl, false, rfl, iteF ?_⟩
      refine ⟨_, rfl, _, _, .type "list", .type "bool", false, rfl, .ty _, sqL_ty h3, kit_ty (by decide +kernel), false, rfl, iteF ?_⟩
      refine ⟨_, rfl, _, _, .type "list", .type "bool", false, rfl, .ty _, sqL_ty h1, kit_ty (by decide +kernel), false, rfl, iteF ?_⟩
      refine ⟨_, rfl, by show 2 ≤ sizeLine; decide, fun t ht => ⟨_, t, _, .type "list", [.type "int", .type "str"], false, rfl, upd_same, .cons (.ty _) (.cons (.ty _) .nil), sqL_ty (((Same.refl _).new ht).seq h3), kitAny_cons (b := false) (kit_ty (by decide +kernel)) (fun _ => kitAny_cons (b := false) (kit_ty (by decide +kernel)) (fun _ => rfl) (fun z => nomatch z)) (fun z => nomatch z), false, rfl, iteF ?_⟩⟩
      have s1 : Same H (upd H t (.tup [.ty "int", .ty "str"])) := (Same.refl _).new ht
      have k : ∀ H', Same (upd H t (.tup [.ty "int", .ty "str"])) H' → Q (.bl true) H' := fun H' e => k H' (s1.trans e)
      have h2 := dpAll_same s1 _ _ h2
      have h4 := dpAll_same s1 _ _ h4
      have h1 := s1.seq h1
      have h3 := s1.seq h3
      generalize upd H t (.tup [.ty "int", .ty "str"]) = H1 at h1 h2 h3 h4 k ⊢
      refine ⟨_, rfl, _, _, .type "list", .type "list", true, rfl, .ty _, sqL_ty h3, kit_ty (by decide +kernel), ?_⟩
      refine ⟨_, rfl, _, _, .type "list", .type "list", true, rfl, .ty _, sqL_ty h1, kit_ty (by decide +kernel), rfl, false, rfl, iteF ?_⟩
      refine ⟨_, rfl, _, _, .type "list", .type "tuple", false, rfl, .ty _, sqL_ty h3, kit_ty (by decide +kernel), ?_⟩
      refine ⟨_, rfl, _, _, .type "list", .type "tuple", false, rfl, .ty _, sqL_ty h1, kit_ty (by decide +kernel), rfl, false, rfl, iteF ?_⟩
      refine ⟨_, rfl, a, xs, rfl, .inl h1, _, rfl, b, ys, rfl, .inl h3, rfl, true, by rw [ex, ey]; exact congrArg V.bl (decide_eq_true rfl), iteT ?_⟩
      refine ⟨_, rfl, _, rfl, a, b, xs, ys, rfl, .inl ⟨h1, h3, fun D hD => lc_any (n := xs.length) (fun i H' => Same H1 H' ∧ H' D = some (.lst ((List.replicate i true).map V.bl))) ⟨(Same.refl _).new hD, upd_same⟩ ?_ ?_⟩⟩
      · intro i H' hix q
        refine ⟨(go_zipL (by rw [ex, ey]) hix ((q.1).seq h1) ((q.1).seq h3)).1, fun v Hv yv => ?_⟩
        obtain ⟨T, x, y, rfl, hT, rfl, hx, hy⟩ := (go_zipL (by rw [ex, ey]) hix ((q.1).seq h1) ((q.1).seq h3)).2 v Hv yv
        obtain ⟨d, hd, dx⟩ := dpAll_get _ _ _ _ h2 hx
        obtain ⟨d', hd', dy⟩ := dpAll_get _ _ _ _ h4 hy
        cases hd.symm.trans hd'
        have hi : i < ds.length := (List.getElem?_eq_some_iff.mp hd).1
        have hsd := h d (List.mem_of_getElem? hd)
        have nD : D ≠ T := ne_of_none q.2 hT
        refine ⟨T, _, rfl, .inl (.inl upd_same), rfl, x, [y], rfl, y, [], rfl, rfl, rfl, ?_⟩
        have sT : Same H' (upd H' T (.tup [x, y])) := (Same.refl _).new hT
        refine ⟨_, rfl, _, rfl, x, y, d, _, rfl, dp_same (q.1.trans sT) _ _ dx, dp_same (q.1.trans sT) _ _ dy, rfl, hsd, fun H2 e2 => ⟨_, e2 _ _ (sT _ _ q.2), ?_, ((q.1.trans sT).trans e2).own hD, ?_⟩⟩
        · rw [List.length_map, List.length_replicate]
          exact Nat.lt_of_lt_of_le (Nat.lt_of_lt_of_le hi l) (by decide)
        · rw [upd_same, List.replicate_succ', List.map_append]
          rfl
      · intro H' q
        refine ⟨⟨xs, ys, (q.1).seq h1, (q.1).seq h3, .inl (Nat.le_refl _)⟩, ?_⟩
        refine ⟨D, _, rfl, SqL.of q.2, ?_⟩
        have e : (List.replicate xs.length true).all id = true := by
          rw [List.all_eq_true]
          intro z hz
          rw [List.eq_of_mem_replicate hz]
          rfl
        show Q (.bl ((List.replicate xs.length true).all id)) H'
        rw [e]
        exact k _ q.1
    | tup h l =>
      cases hx with
      | tup h1 h2 =>
      cases hy with
      | tup h3 h4 =>
      rename_i ds a xs b ys
      have ex := dpAll_len _ _ h2
      have ey := dpAll_len _ _ h4
      refine ⟨_, rfl, false, rfl, iteF ?_⟩
      refine ⟨_, rfl, _, _, .type "tuple", .type "bool", false, rfl, .ty _, sqT_ty h3, kit_ty (by decide +kernel), false, rfl, iteF ?_⟩
      refine ⟨_, rfl, _, _, .type "tuple", .type "bool", false, rfl, .ty _, sqT_ty h1, kit_ty (by decide +kernel), false, rfl, iteF ?_⟩
      refine ⟨_, rfl, by show 2 ≤ sizeLine; decide, fun t ht => ⟨_, t, _, .type "tuple", [.type "int", .type "str"], false, rfl, upd_same, .cons (.ty _) (.cons (.ty _) .nil), sqT_ty (same_t ((Same.refl _).new ht) h3), kitAny_cons (b := false) (kit_ty (by decide +kernel)) (fun _ => kitAny_cons (b := false) (kit_ty (by decide +kernel)) (fun _ => rfl) (fun z => nomatch z)) (fun z => nomatch z), false, rfl, iteF ?_⟩⟩
      have s1 : Same H (upd H t (.tup [.ty "int", .ty "str"])) := (Same.refl _).new ht
      have k : ∀ H', Same (upd H t (.tup [.ty "int", .ty "str"])) H' → Q (.bl true) H' := fun H' e => k H' (s1.trans e)
      have h2 := dpAll_same s1 _ _ h2
      have h4 := dpAll_same s1 _ _ h4
      have h1 := same_t s1 h1
      have h3 := same_t s1 h3
      generalize upd H t (.tup [.ty "int", .ty "str"]) = H1 at h1 h2 h3 h4 k ⊢
      refine ⟨_, rfl, _, _, .type "tuple", .type "list", false, rfl, .ty _, sqT_ty h3, kit_ty (by decide +kernel), ?_⟩
      refine ⟨_, rfl, _, _, .type "tuple", .type "list", false, rfl, .ty _, sqT_ty h1, kit_ty (by decide +kernel), rfl, false, rfl, iteF ?_⟩
      refine ⟨_, rfl, _, _, .type "tuple", .type "tuple", true, rfl, .ty _, sqT_ty h3, kit_ty (by decide +kernel), ?_⟩
      refine ⟨_, rfl, _, _, .type "tuple", .type "tuple", true, rfl, .ty _, sqT_ty h1, kit_ty (by decide +kernel), rfl, false, rfl, iteF ?_⟩
      refine ⟨_, rfl, a, xs, rfl, .inr h1, _, rfl, b, ys, rfl, .inr h3, rfl, true, by rw [ex, ey]; exact congrArg V.bl (decide_eq_true rfl), iteT ?_⟩
      refine ⟨_, rfl, _, rfl, a, b, xs, ys, rfl, .inr ⟨h1, h3, fun D hD => lc_any (n := xs.length) (fun i H' => Same H1 H' ∧ H' D = some (.lst ((List.replicate i true).map V.bl))) ⟨(Same.refl _).new hD, upd_same⟩ ?_ ?_⟩⟩
      · intro i H' hix q
        refine ⟨(go_zipT (by rw [ex, ey]) hix (same_t (q.1) h1) (same_t (q.1) h3)).1, fun v Hv yv => ?_⟩
        obtain ⟨T, x, y, rfl, hT, rfl, hx, hy⟩ := (go_zipT (by rw [ex, ey]) hix (same_t (q.1) h1) (same_t (q.1) h3)).2 v Hv yv
        obtain ⟨d, hd, dx⟩ := dpAll_get _ _ _ _ h2 hx
        obtain ⟨d', hd', dy⟩ := dpAll_get _ _ _ _ h4 hy
        cases hd.symm.trans hd'
        have hi : i < ds.length := (List.getElem?_eq_some_iff.mp hd).1
        have hsd := h d (List.mem_of_getElem? hd)
        have nD : D ≠ T := ne_of_none q.2 hT
        refine ⟨T, _, rfl, .inl (.inl upd_same), rfl, x, [y], rfl, y, [], rfl, rfl, rfl, ?_⟩
        have sT : Same H' (upd H' T (.tup [x, y])) := (Same.refl _).new hT
        refine ⟨_, rfl, _, rfl, x, y, d, _, rfl, dp_same (q.1.trans sT) _ _ dx, dp_same (q.1.trans sT) _ _ dy, rfl, hsd, fun H2 e2 => ⟨_, e2 _ _ (sT _ _ q.2), ?_, ((q.1.trans sT).trans e2).own hD, ?_⟩⟩
        · rw [List.length_map, List.length_replicate]
          exact Nat.lt_of_lt_of_le (Nat.lt_of_lt_of_le hi l) (by decide)
        · rw [upd_same, List.replicate_succ', List.map_append]
          rfl
      · intro H' q
        refine ⟨⟨xs, ys, same_t (q.1) h1, same_t (q.1) h3, .inl (Nat.le_refl _)⟩, ?_⟩
        refine ⟨D, _, rfl, SqL.of q.2, ?_⟩
        have e : (List.replicate xs.length true).all id = true := by
          rw [List.all_eq_true]
          intro z hz
          rw [List.eq_of_mem_replicate hz]
          rfl
        show Q (.bl ((List.replicate xs.length true).all id)) H'
        rw [e]
        exact k _ q.1
theorem ok_same {f : Addr} {fd : FuncData} (F : Fun K "_law_same" "_law_same" sSame f fd) (mS : mg "_law_same" = some (.ref f)) (bS : Binds K fd ["_law_found", "_law_due"] []) (B : Blt mg) : ∀ n, FnOk P w K mg base CX0 n f fd ["_law_found", "_law_due"] (spSame K n)
  | 0 => by
    have no : ∀ vs H Q E, ¬ spSame K 0 vs H Q E := fun vs H Q E ⟨x, y, d, m, _, _, _, h, _⟩ => by omega
    exact ⟨fun vs H Q E h => absurd h (no vs H Q E), fun A outer s H args us vs Q E _ _ _ _ h => absurd h (no vs H Q E)⟩
  | n + 1 => ok_same_step F (ok_same F mS bS B n) mS bS B
end
end Own

namespace Own
open PySem L2 ClX
abbrev sSlip : Stmt := topT 27
def spSlip : Sp := fun vs H Q _ => ∃ (p c : Addr), vs = [.ref p] ∧ BagC H p c ∧ ∀ H' l xs, But p H H' → BagC H' p c → H l = none → H' l = some (.lst xs) → Q (.ref l) H'
theorem But.new {p l : Addr} {H H' : Hp} {o : HO} (a : But p H H') (h : H l = none) : But p H (L2.upd H' l o) := fun b u n e => by
  rw [upd_ne (ne_of_none e h)]; exact a b u n e
theorem But.free {p l : Addr} {H H' : Hp} (a : But p H H') (n : l ≠ p) (h : H' l = none) : H l = none := by
  cases e : H l with
  | none => rfl
  | some o => rw [a l o n e] at h; cases h
section
variable {P : Program} {w : World} {K : PySem.W.Frag} {mg : Str → Option Value} {base : Heap}
theorem scSlip : FnScope ["_law_bag_here", "_law_word"] ["_law_bag_here"] (defScope sSlip) := ⟨rfl, rfl, rfl, by decide +kernel, rfl, by decide +kernel, by decide +kernel⟩
theorem ok_slip {f fD : Addr} {fd fdD : FuncData} (F : Fun K "_law_slip_words" "_law_slip_words" sSlip f fd) (G : FnOk P w K mg base CX0 1 fD fdD ["_law_bag_here", "_law_many"] spDraw) (mD : mg "_law_draw" = some (.ref fD)) (kD : PySem.W.keepIn K (.ref fD) = true) (bD : Binds K fdD ["_law_bag_here", "_law_many"] []) : FnOk P w K mg base CX0 2 f fd ["_law_bag_here"] spSlip := by
  refine F.ok scSlip (fun vs H Q E h => ?_) (fun cdv A outer s H vs Q E hr h => ?_)
  · obtain ⟨p, c, rfl, _⟩ := h
    rfl
  · obtain ⟨p, c, rfl, hb, k⟩ := h
    refine ⟨_, pss_one (ps_ret (pe_lc (own := [("_law_word", 1)]) (g := gName 1) rfl scSlip.nd (pi_list (pe_lst (pa_cons pe_str (pa_cons pe_str (pa_cons pe_str pa_nil))))) (blkOk_by (N := ["_law_bag_here", "_law_word"]) (sc := defScope sSlip) (by decide +kernel))
      (fun _ _ _ _ _ => pg_name (i := 1) scSlip.nd rfl (Or.inl rfl)) (fun _ _ _ _ _ => pts_one (pt_cmpR op_gt (pe_call G hr rfl mD kD bD .nil pass0 (pa_cons (pv 0) (pa_cons pe_int pa_nil))) pe_int (nomark _))) (fun _ _ _ _ _ => pv 1))), ?_⟩
    refine ⟨by show 3 ≤ sizeLine; decide, fun l hl => ⟨l, rfl, ⟨_, SqL.of upd_same⟩, fun D hD => ?_⟩⟩
    obtain ⟨nlp, nlc⟩ := hb.ne hl
    have hD0 : H D = none := by
      by_cases e : D = l
      · rw [e, upd_same] at hD; cases hD
      · rw [upd_ne e] at hD; exact hD
    have nDl : D ≠ l := fun e => by rw [e, upd_same] at hD; cases hD
    obtain ⟨nDp, nDc⟩ := hb.ne hD0
    refine lc_list (K := K) (a := l) (xs := [V.str "missed", V.str "twice", V.str "swapped"]) (fun i H' => But p H H' ∧ BagC H' p c ∧ H' l = some (.lst [V.str "missed", V.str "twice", V.str "swapped"]) ∧ ∃ acc, H' D = some (.lst acc) ∧ acc.length ≤ i) ⟨?_, ?_, ?_, [], upd_same, Nat.le_refl _⟩ (fun i H' _ q => .inl (.inl q.2.2.1)) ?_ ?_
    · exact But.of (((Same.refl H).new hl).new hD)
    · exact (hb.new hl).new hD
    · rw [upd_ne (Ne.symm nDl), upd_same]
    · rintro i y H' hi ⟨q1, q2, q3, acc, q4, q5⟩
      have h3 : i < 3 := (List.getElem?_eq_some_iff.mp hi).1
      refine ⟨rfl, _, rfl, p, 3, c, rfl, q2, by decide, by decide, fun H2 r b1 b2 r0 r1 => ?_⟩
      have d4 := b1 _ _ nDp q4
      have d3 := b1 _ _ nlp q3
      refine ⟨r, 0, rfl, rfl, _, rfl, ite2 (fun c => ?_) (fun c => ?_)⟩
      · refine ⟨_, rfl, acc, d4, Nat.lt_of_le_of_lt q5 (Nat.lt_trans h3 (by decide)), (q1.trans b1).new hD0, b2.upd nDp nDc, ?_, _, upd_same, ?_⟩
        · rw [upd_ne (Ne.symm nDl)]; exact d3
        · rw [List.length_append]; exact Nat.succ_le_succ q5
      · exact ⟨q1.trans b1, b2, d3, acc, d4, Nat.le_succ_of_le q5⟩
    · rintro H' ⟨q1, q2, q3, acc, q4, q5⟩
      exact k H' D acc q1 q2 hD0 q4
end
abbrev sPlan : Stmt := topT 28
/-- a plan stands at d -/
def PlanAt (H : Hp) (d : Addr) (rs : List Int) (s : Int) (e st p : Str) : Prop := ∃ (kvs : List (Key × V)) (t : Addr), H d = some (.dK kvs) ∧ kvs.length ≤ 15 ∧ valV kvs (Sum.inr "rooms") = some (.ref t) ∧ H t = some (.lst (rs.map V.int)) ∧ valV kvs (Sum.inr "seek") = some (.int s) ∧ valV kvs (Sum.inr "empty") = some (.str e) ∧
  valV kvs (Sum.inr "strange") = some (.str st) ∧ valV kvs (Sum.inr "pause") = some (.str p) ∧ TrOk rs s e st p
def spPlan : Sp := fun vs H Q _ => ∃ (p c : Addr), vs = [.ref p, .int 3, .int 3] ∧ BagC H p c ∧ ∀ H' d rs s e st z, But p H H' → BagC H' p c → H d = none → PlanAt H' d rs s e st z → Q (.ref d) H'
/-- while the display is made -/
structure Mid (H0 H : Hp) (p c d : Addr) : Prop where
  but : But p H0 H
  bag : BagC H p c
  dk : H d = some (.dK [])
  fr : H0 d = none
namespace Mid
variable {H0 H H' : Hp} {p c d l : Addr}
theorem dp (m : Mid H0 H p c d) : d ≠ p := by
  obtain ⟨cs, i, x, y, h1, _⟩ := m.bag
  exact ne_of m.dk h1 (fun z => nomatch z)
theorem dc (m : Mid H0 H p c d) : d ≠ c := by
  obtain ⟨cs, i, x, y, _, h1, _⟩ := m.bag
  exact ne_of m.dk h1 (fun z => nomatch z)
theorem draw (m : Mid H0 H p c d) (b1 : But p H H') (b2 : BagC H' p c) : Mid H0 H' p c d := ⟨m.but.trans b1, b2, b1 _ _ m.dp m.dk, m.fr⟩
theorem new {o : HO} (m : Mid H0 H p c d) (h : H l = none) : Mid H0 (upd H l o) p c d := by
  have n := m.bag.ne h
  exact ⟨m.but.new (m.but.free n.1 h), m.bag.new h, by rw [upd_ne (ne_of_none m.dk h)]; exact m.dk, m.fr⟩
theorem put {o : HO} (m : Mid H0 H p c d) (h0 : H0 l = none) (n1 : l ≠ p) (n2 : l ≠ c) (n3 : l ≠ d) : Mid H0 (upd H l o) p c d :=
  ⟨m.but.new h0, m.bag.upd n1 n2, by rw [upd_ne (Ne.symm n3)]; exact m.dk, m.fr⟩
theorem free (m : Mid H0 H p c d) (h : H l = none) : H0 l = none := m.but.free (m.bag.ne h).1 h
theorem nd (m : Mid H0 H p c d) (h : H l = none) : l ≠ d := Ne.symm (ne_of_none m.dk h)
end Mid
end Own

namespace Own
open PySem L2 ClX
def planK (a b c d e f g h i j : V) : List (Key × V) := [(Sum.inr "belts", a), (Sum.inr "scans", b), (Sum.inr "slips", c), (Sum.inr "words", d), (Sum.inr "stretch", e), (Sum.inr "rooms", f), (Sum.inr "seek", g), (Sum.inr "empty", h), (Sum.inr "strange", i), (Sum.inr "pause", j)]
theorem merge_new : ∀ {more kvs : List (Key × V)}, ((kvs ++ more).map (·.1)).Nodup → mergeK kvs more = kvs ++ more
  | [], kvs, _ => (List.append_nil kvs).symm
  | x :: r, kvs, h => by
    have hx : valV kvs x.1 = none := by
      cases q : valV kvs x.1 with
      | none => rfl
      | some v =>
        unfold valV at q
        cases z : kvs.find? (fun kv => decide (kv.1 = x.1)) with
        | none => rw [z] at q; cases q
        | some y =>
          have h1 := List.mem_of_find?_eq_some z
          have h2 := of_decide_eq_true (List.find?_some (p := fun kv : Key × V => decide (kv.1 = x.1)) z)
          rw [List.map_append, List.nodup_append] at h
          exact absurd h2 (h.2.2 _ (List.mem_map_of_mem h1) _ (List.mem_cons_self ..))
    have e : putK kvs x.1 x.2 = kvs ++ [x] := by
      unfold putK
      rw [valV_any, hx]
      rfl
    show mergeK (putK kvs x.1 x.2) r = kvs ++ x :: r
    rw [e, merge_new (by rw [List.append_assoc]; exact h), List.append_assoc]
    rfl
theorem plan_merge (a b c d e f g h i j : V) : mergeK [] (planK a b c d e f g h i j) = planK a b c d e f g h i j := merge_new (by
  show ([Sum.inr "belts", Sum.inr "scans", Sum.inr "slips", Sum.inr "words", Sum.inr "stretch", Sum.inr "rooms", Sum.inr "seek", Sum.inr "empty", Sum.inr "strange", Sum.inr "pause"] : List Key).Nodup
  decide +kernel)
theorem plan_rooms (a b c d e f g h i j : V) : valV (planK a b c d e f g h i j) (Sum.inr "rooms") = some f := by
  unfold planK
  rw [valV_neg (by exact fun z => absurd (Sum.inr.inj z) (by decide +kernel)), valV_neg (by exact fun z => absurd (Sum.inr.inj z) (by decide +kernel)), valV_neg (by exact fun z => absurd (Sum.inr.inj z) (by decide +kernel)), valV_neg (by exact fun z => absurd (Sum.inr.inj z) (by decide +kernel)), valV_neg (by exact fun z => absurd (Sum.inr.inj z) (by decide +kernel)), valV_pos rfl]
theorem plan_seek (a b c d e f g h i j : V) : valV (planK a b c d e f g h i j) (Sum.inr "seek") = some g := by
  unfold planK
  rw [valV_neg (by exact fun z => absurd (Sum.inr.inj z) (by decide +kernel)), valV_neg (by exact fun z => absurd (Sum.inr.inj z) (by decide +kernel)), valV_neg (by exact fun z => absurd (Sum.inr.inj z) (by decide +kernel)), valV_neg (by exact fun z => absurd (Sum.inr.inj z) (by decide +kernel)), valV_neg (by exact fun z => absurd (Sum.inr.inj z) (by decide +kernel)), valV_neg (by exact fun z => absurd (Sum.inr.inj z) (by decide +kernel)), valV_pos rfl]
theorem plan_empty (a b c d e f g h i j : V) : valV (planK a b c d e f g h i j) (Sum.inr "empty") = some h := by
  unfold planK
  rw [valV_neg (by exact fun z => absurd (Sum.inr.inj z) (by decide +kernel)), valV_neg (by exact fun z => absurd (Sum.inr.inj z) (by decide +kernel)), valV_neg (by exact fun z => absurd (Sum.inr.inj z) (by decide +kernel)), valV_neg (by exact fun z => absurd (Sum.inr.inj z) (by decide +kernel)), valV_neg (by exact fun z => absurd (Sum.inr.inj z) (by decide +kernel)), valV_neg (by exact fun z => absurd (Sum.inr.inj z) (by decide +kernel)), valV_neg (by exact fun z => absurd (Sum.inr.inj z) (by decide +kernel)), valV_pos rfl]
theorem plan_strange (a b c d e f g h i j : V) : valV (planK a b c d e f g h i j) (Sum.inr "strange") = some i := by
  unfold planK
  rw [valV_neg (by exact fun z => absurd (Sum.inr.inj z) (by decide +kernel)), valV_neg (by exact fun z => absurd (Sum.inr.inj z) (by decide +kernel)), valV_neg (by exact fun z => absurd (Sum.inr.inj z) (by decide +kernel)), valV_neg (by exact fun z => absurd (Sum.inr.inj z) (by decide +kernel)), valV_neg (by exact fun z => absurd (Sum.inr.inj z) (by decide +kernel)), valV_neg (by exact fun z => absurd (Sum.inr.inj z) (by decide +kernel)), valV_neg (by exact fun z => absurd (Sum.inr.inj z) (by decide +kernel)), valV_neg (by exact fun z => absurd (Sum.inr.inj z) (by decide +kernel)), valV_pos rfl]
theorem plan_pause (a b c d e f g h i j : V) : valV (planK a b c d e f g h i j) (Sum.inr "pause") = some j := by
  unfold planK
  rw [valV_neg (by exact fun z => absurd (Sum.inr.inj z) (by decide +kernel)), valV_neg (by exact fun z => absurd (Sum.inr.inj z) (by decide +kernel)), valV_neg (by exact fun z => absurd (Sum.inr.inj z) (by decide +kernel)), valV_neg (by exact fun z => absurd (Sum.inr.inj z) (by decide +kernel)), valV_neg (by exact fun z => absurd (Sum.inr.inj z) (by decide +kernel)), valV_neg (by exact fun z => absurd (Sum.inr.inj z) (by decide +kernel)), valV_neg (by exact fun z => absurd (Sum.inr.inj z) (by decide +kernel)), valV_neg (by exact fun z => absurd (Sum.inr.inj z) (by decide +kernel)), valV_neg (by exact fun z => absurd (Sum.inr.inj z) (by decide +kernel)), valV_pos rfl]
/-- a list of draws, each 1 more, at D -/
def Drawn (H : Hp) (D : Addr) (n : Nat) : Prop := ∃ rs : List Int, H D = some (.lst (rs.map V.int)) ∧ rs.length = n ∧ ∀ r, r ∈ rs → 1 ≤ r ∧ r ≤ 4
theorem Drawn.step {H : Hp} {D : Addr} {i : Nat} {r : Int} (h : Drawn H D i) (hi : i < 5) (r0 : 0 ≤ r) (r1 : r < 4) : ∃ acc, H D = some (.lst acc) ∧ acc.length < sizeLine ∧ Drawn (upd H D (.lst (acc ++ [V.int (1 + r)]))) D (i + 1) := by
  obtain ⟨rs, e, l, a⟩ := h
  refine ⟨_, e, ?_, rs ++ [1 + r], ?_, ?_, fun x hx => ?_⟩
  · rw [List.length_map, l]
    exact Nat.lt_trans hi (by decide)
  · rw [upd_same, List.map_append]
    rfl
  · rw [List.length_append, l]
    rfl
  · rcases List.mem_append.mp hx with hx | hx
    · exact a x hx
    · obtain rfl := List.mem_singleton.mp hx
      omega
section
variable {P : Program} {w : World} {K : PySem.W.Frag} {mg : Str → Option Value} {base : Heap}
abbrev NPlan : List Str := ["_law_bag_here", "_law_most", "_law_wide", "_law_many", "_law_scans", "_law_point", "_law_k"]
theorem scPlan : FnScope NPlan ["_law_bag_here", "_law_most", "_law_wide"] (defScope sPlan) := ⟨rfl, rfl, rfl, by decide +kernel, rfl, by decide +kernel, by decide +kernel⟩
theorem ok_plan {f fD fO fS : Addr} {fd fdD fdO fdS : FuncData} (F : Fun K "_law_planned" "_law_planned" sPlan f fd) (G : FnOk P w K mg base CX0 1 fD fdD ["_law_bag_here", "_law_many"] spDraw) (mD : mg "_law_draw" = some (.ref fD)) (kD : PySem.W.keepIn K (.ref fD) = true) (bD : Binds K fdD ["_law_bag_here", "_law_many"] [])
    (GO : FnOk P w K mg base CX0 2 fO fdO ["_law_bag_here", "_law_some"] (spOf K)) (mO : mg "_law_of" = some (.ref fO)) (kO : PySem.W.keepIn K (.ref fO) = true) (bO : Binds K fdO ["_law_bag_here", "_law_some"] [])
    (GS : FnOk P w K mg base CX0 2 fS fdS ["_law_bag_here"] spSlip) (mS : mg "_law_slip_words" = some (.ref fS)) (kS : PySem.W.keepIn K (.ref fS) = true) (bS : Binds K fdS ["_law_bag_here"] []) (zR : mg "range" = none) :
    FnOk P w K mg base CX0 3 f fd ["_law_bag_here", "_law_most", "_law_wide"] spPlan := by
  refine F.ok scPlan (fun vs H Q E h => ?_) (fun cdv A outer s H vs Q E hr h => ?_)
  · obtain ⟨p, c, rfl, _⟩ := h
    rfl
  · obtain ⟨p, c, rfl, hb, k⟩ := h
    have nd := scPlan.nd
    have hr1 := hr.mono (j := 1) (by decide)
    refine ⟨_, pss_cons (ps_set (i := 3) nd rfl (Or.inl rfl) (pe_op op_add pe_int (pe_call G hr1 rfl mD kD bD .nil pass0 (pa_cons (pv 0) (pa_cons (pv 1) pa_nil)))))
      (pss_cons (ps_setLc (i := 4) (own := [("_law_point", 5)]) (g := gName 5) rfl nd rfl rfl (sw_true rfl rfl rfl (by decide +kernel)) (pi_range2 (by rfl) zR (pa_cons pe_int (pa_cons (pv 3) pa_nil))) (blkOk_by (N := NPlan) (sc := defScope sPlan) (by decide +kernel))
        (fun _ _ _ _ _ => pg_name (i := 5) nd rfl (Or.inl rfl)) (fun _ _ _ _ _ => pts_one (pt_cmpR op_eq (pe_call G hr1 rfl mD kD bD .nil pass0 (pa_cons (pv 0) (pa_cons pe_int pa_nil))) pe_int (nomark _))) (fun _ _ _ _ _ => pv 5))
      (pss_one (ps_ret (pe_disp
        (pps_cons pe_str (pe_lc (own := [("_law_k", 6)]) (g := gName 6) (tt := tYes) rfl nd (pi_range1 (by rfl) zR (pa_cons (pv 3) pa_nil)) (blkOk_by (N := NPlan) (sc := defScope sPlan) (by decide +kernel)) (fun _ _ _ _ _ => pg_name (i := 6) nd rfl (Or.inl rfl)) (fun _ _ _ _ _ => pts_nil) (fun _ _ _ _ _ => pe_op op_add pe_int (pe_call G hr1 rfl mD kD bD .nil pass0 (pa_cons (pv 0) (pa_cons (pv 2) pa_nil)))))
        (pps_cons pe_str (pv 4)
        (pps_cons pe_str (pe_tup (pa_cons (pe_call G hr1 rfl mD kD bD .nil pass0 (pa_cons (pv 0) (pa_cons (pe_op op_add (pv 2) pe_int) pa_nil))) (pa_cons (pe_op op_add pe_int (pe_call G hr1 rfl mD kD bD .nil pass0 (pa_cons (pv 0) (pa_cons (pe_op op_mul pe_int (pv 2)) pa_nil)))) pa_nil)))
        (pps_cons pe_str (pe_call GS hr rfl mS kS bS .nil pass0 (pa_cons (pv 0) pa_nil))
        (pps_cons pe_str (pe_call GO hr rfl mO kO bO .nil pass0 (pa_cons (pv 0) (pa_cons (pe_lst (pa_cons pe_non (pa_cons pe_non (pa_cons pe_int (pa_cons pe_int (pa_cons pe_int pa_nil)))))) pa_nil)))
        (pps_cons pe_str (pe_lc (own := [("_law_k", 6)]) (g := gName 6) (tt := tYes) rfl nd (pi_range1 (by rfl) zR (pa_cons (pv 3) pa_nil)) (blkOk_by (N := NPlan) (sc := defScope sPlan) (by decide +kernel)) (fun _ _ _ _ _ => pg_name (i := 6) nd rfl (Or.inl rfl)) (fun _ _ _ _ _ => pts_nil) (fun _ _ _ _ _ => pe_op op_add pe_int (pe_call G hr1 rfl mD kD bD .nil pass0 (pa_cons (pv 0) (pa_cons (pe_op op_add (pv 2) pe_int) pa_nil)))))
        (pps_cons pe_str (pe_call G hr1 rfl mD kD bD .nil pass0 (pa_cons (pv 0) (pa_cons (pe_op op_add (pv 2) pe_int) pa_nil)))
        (pps_cons pe_str (pe_call GO hr rfl mO kO bO .nil pass0 (pa_cons (pv 0) (pa_cons (pe_lst (pa_cons pe_str (pa_cons pe_str pa_nil))) pa_nil)))
        (pps_cons pe_str (pe_call GO hr rfl mO kO bO .nil pass0 (pa_cons (pv 0) (pa_cons (pe_lst (pa_cons pe_str (pa_cons pe_str pa_nil))) pa_nil)))
        (pps_cons pe_str (pe_call GO hr rfl mO kO bO .nil pass0 (pa_cons (pv 0) (pa_cons (pe_lst (pa_cons pe_str (pa_cons pe_str pa_nil))) pa_nil)))
        pps_nil)))))))))) (by rfl) (by rfl) (fun z => by cases z) (by decide))))), ?_⟩
    refine ⟨_, rfl, _, rfl, p, 3, c, rfl, hb, by decide, by decide, fun H1 m b1 hb1 m0 m3 => ?_⟩
    refine ⟨1, m, rfl, rfl, _, rfl, 1, 1 + m, rfl, ⟨by decide, by decide, by omega, by omega⟩, fun D hD => ?_⟩
    obtain ⟨nDp, nDc⟩ := hb1.ne hD
    refine lc_range (lo := 1) (n := (1 + m - 1).toNat) (fun i H' => But p H1 H' ∧ BagC H' p c ∧ ∃ acc, H' D = some (.lst acc) ∧ acc.length ≤ i) ⟨But.of ((Same.refl H1).new hD), hb1.new hD, [], upd_same, Nat.le_refl _⟩ ?_ ?_
    · rintro i H' hi ⟨q1, q2, acc, q4, q5⟩
      refine ⟨rfl, _, rfl, p, 2, c, rfl, q2, by decide, by decide, fun H2 r b1 b2 r0 r1 => ?_⟩
      have d4 := b1 _ _ nDp q4
      refine ⟨rfl, _, rfl, ite2 (fun c => ?_) (fun c => ?_)⟩
      · refine ⟨_, rfl, acc, d4, Nat.lt_of_le_of_lt q5 (Nat.lt_trans hi (Nat.lt_of_le_of_lt (show (1 + m - 1).toNat ≤ 3 by omega) (by decide))), (q1.trans b1).new hD, b2.upd nDp nDc, _, upd_same, ?_⟩
        rw [List.length_append]; exact Nat.succ_le_succ q5
      · exact ⟨q1.trans b1, b2, acc, d4, Nat.le_succ_of_le q5⟩
    · rintro H2 ⟨q1, q2, acc, q4, q5⟩
      have hm : (1 + m).toNat ≤ 3 := by omega
      refine fun d hd => ?_
      have M1 : Mid H2 (upd H2 d (.dK [])) p c d := ⟨(But.refl p H2).new hd, q2.new hd, upd_same, hd⟩
      refine ⟨_, rfl, 1 + m, rfl, by omega, by omega, fun D1 hD1 => ?_⟩
      have nD1 := M1.bag.ne hD1
      refine lc_range (lo := 0) (n := (1 + m).toNat) (fun i H' => Mid H2 H' p c d ∧ Drawn H' D1 i) ⟨M1.new hD1, [], upd_same, rfl, fun r hr => nomatch hr⟩ ?_ ?_
      · rintro i H' hi ⟨M, dr⟩
        refine ⟨rfl, _, rfl, _, rfl, p, 3, c, rfl, M.bag, by decide, by decide, fun H3 r b2 b3 r0 r1 => ?_⟩
        have dr3 : Drawn H3 D1 i := by
          obtain ⟨rs, e, q⟩ := dr
          exact ⟨rs, b2 _ _ nD1.1 e, q⟩
        obtain ⟨acc, e, l, w⟩ := dr3.step (by omega) r0 (by omega)
        exact ⟨1, r, rfl, rfl, acc, e, l, (M.draw b2 b3).put (M1.free hD1) nD1.1 nD1.2 (M1.nd hD1), w⟩
      · rintro H3 ⟨M3, _⟩
        refine ⟨_, rfl, ?_⟩
        refine ⟨_, rfl, _, rfl, 3, 1, rfl, rfl, p, 4, c, rfl, M3.bag, by decide, by decide, fun H4 r4 b4 c4 _ _ => ?_⟩
        have M4 := M3.draw b4 c4
        refine ⟨_, rfl, _, rfl, 2, 3, rfl, rfl, .inl ⟨by decide, by decide⟩, p, 6, c, rfl, M4.bag, by decide, by decide, fun H5 r5 b5 c5 _ _ => ?_⟩
        have M5 := M4.draw b5 c5
        refine ⟨1, r5, rfl, rfl, by show 2 ≤ sizeLine; decide, fun tt htt => ?_⟩
        have M6 := M5.new (o := .tup [.int r4, .int (1 + r5)]) htt
        refine ⟨_, rfl, p, c, rfl, M6.bag, fun H7 l7 xs7 b7 c7 _ _ => ?_⟩
        have M7 := M6.draw b7 c7
        refine ⟨_, rfl, by show 5 ≤ sizeLine; decide, fun l8 hl8 => ⟨p, l8, _, c, rfl, M7.bag.new hl8, SqL.of upd_same, (M7.bag.ne hl8).1, (fun z => by cases z), by show 5 ≤ 1000; decide, fun H9 x9 b9 c9 _ => ?_⟩⟩
        have M9 := (M7.new hl8).draw b9 c9
        refine ⟨_, rfl, 1 + m, rfl, by omega, by omega, fun D2 hD2 => ?_⟩
        have nD2 := M9.bag.ne hD2
        refine lc_range (lo := 0) (n := (1 + m).toNat) (fun i H' => Mid H2 H' p c d ∧ Drawn H' D2 i) ⟨M9.new hD2, [], upd_same, rfl, fun r hr => nomatch hr⟩ ?_ ?_
        · rintro i H' hi ⟨M, dr⟩
          refine ⟨rfl, _, rfl, _, rfl, 3, 1, rfl, rfl, p, 4, c, rfl, M.bag, by decide, by decide, fun H3 r b2 b3 r0 r1 => ?_⟩
          have dr3 : Drawn H3 D2 i := by
            obtain ⟨rs, e, q⟩ := dr
            exact ⟨rs, b2 _ _ nD2.1 e, q⟩
          obtain ⟨acc, e, l, w⟩ := dr3.step (by omega) r0 (by omega)
          exact ⟨1, r, rfl, rfl, acc, e, l, (M.draw b2 b3).put (M9.free hD2) nD2.1 nD2.2 (M9.nd hD2), w⟩
        · rintro H10 ⟨M10, rs, e10, l10, a10⟩
          refine ⟨_, rfl, _, rfl, 3, 1, rfl, rfl, p, 4, c, rfl, M10.bag, by decide, by decide, fun H11 sk b11 c11 s0 s1 => ?_⟩
          have M11 := M10.draw b11 c11
          have e11 := b11 _ _ nD2.1 e10
          refine ⟨_, rfl, by show 2 ≤ sizeLine; decide, fun l12 hl12 => ⟨p, l12, _, c, rfl, M11.bag.new hl12, SqL.of upd_same, (M11.bag.ne hl12).1, (fun z => by cases z), by show 2 ≤ 1000; decide, fun H12 x12 b12 c12 h12 => ?_⟩⟩
          have M12 := (M11.new hl12).draw b12 c12
          have e12 := b12 _ _ nD2.1 (((Same.refl _).new hl12) _ _ e11)
          refine ⟨_, rfl, by show 2 ≤ sizeLine; decide, fun l13 hl13 => ⟨p, l13, _, c, rfl, M12.bag.new hl13, SqL.of upd_same, (M12.bag.ne hl13).1, (fun z => by cases z), by show 2 ≤ 1000; decide, fun H13 x13 b13 c13 h13 => ?_⟩⟩
          have M13 := (M12.new hl13).draw b13 c13
          have e13 := b13 _ _ nD2.1 (((Same.refl _).new hl13) _ _ e12)
          refine ⟨_, rfl, by show 2 ≤ sizeLine; decide, fun l14 hl14 => ⟨p, l14, _, c, rfl, M13.bag.new hl14, SqL.of upd_same, (M13.bag.ne hl14).1, (fun z => by cases z), by show 2 ≤ 1000; decide, fun H14 x14 b14 c14 h14 => ?_⟩⟩
          have M14 := (M13.new hl14).draw b14 c14
          have e14 := b14 _ _ nD2.1 (((Same.refl _).new hl14) _ _ e13)
          obtain ⟨ze, rfl, we⟩ : ∃ z : Str, x12 = .str z ∧ inV (.str z) emptyW = true := by
            rcases List.mem_cons.mp h12 with rfl | h
            · exact ⟨_, rfl, by decide +kernel⟩
            · obtain rfl := List.mem_singleton.mp h
              exact ⟨_, rfl, by decide +kernel⟩
          obtain ⟨zs, rfl, ws⟩ : ∃ z : Str, x13 = .str z ∧ inV (.str z) strangeW = true := by
            rcases List.mem_cons.mp h13 with rfl | h
            · exact ⟨_, rfl, by decide +kernel⟩
            · obtain rfl := List.mem_singleton.mp h
              exact ⟨_, rfl, by decide +kernel⟩
          obtain ⟨zp, rfl, wp⟩ : ∃ z : Str, x14 = .str z ∧ inV (.str z) pauseW = true := by
            rcases List.mem_cons.mp h14 with rfl | h
            · exact ⟨_, rfl, by decide +kernel⟩
            · obtain rfl := List.mem_singleton.mp h
              exact ⟨_, rfl, by decide +kernel⟩
          refine ⟨M14.dk, [(Sum.inr "belts", .ref D1), (Sum.inr "scans", .ref D), (Sum.inr "slips", .ref tt), (Sum.inr "words", .ref l7), (Sum.inr "stretch", x9), (Sum.inr "rooms", .ref D2), (Sum.inr "seek", .int sk), (Sum.inr "empty", .str ze), (Sum.inr "strange", .str zs), (Sum.inr "pause", .str zp)], rfl, by show 10 ≤ 15; decide, ?_⟩
          have hd0 : H d = none := (b1.trans q1).free M14.dp hd
          refine k _ d rs sk ze zs zp (((b1.trans q1).trans M14.but).new hd0) (M14.bag.upd M14.dp M14.dc) hd0 ⟨_, D2, upd_same, ?_, ?_, ?_, ?_, ?_, ?_, ?_, ⟨by omega, by omega, a10, s0, by omega, we, ws, wp⟩⟩
          · show (mergeK [] (planK _ _ _ _ _ _ _ _ _ _)).length ≤ 15
            rw [plan_merge]
            show 10 ≤ 15
            decide
          · show valV (mergeK [] (planK _ _ _ _ _ _ _ _ _ _)) _ = _
            rw [plan_merge, plan_rooms]
          · rw [upd_ne (ne_of e14 M14.dk (fun z => nomatch z))]; exact e14
          · show valV (mergeK [] (planK _ _ _ _ _ _ _ _ _ _)) _ = _
            rw [plan_merge, plan_seek]
          · show valV (mergeK [] (planK _ _ _ _ _ _ _ _ _ _)) _ = _
            rw [plan_merge, plan_empty]
          · show valV (mergeK [] (planK _ _ _ _ _ _ _ _ _ _)) _ = _
            rw [plan_merge, plan_strange]
          · show valV (mergeK [] (planK _ _ _ _ _ _ _ _ _ _)) _ = _
            rw [plan_merge, plan_pause]
end
end Own

namespace Own
open PySem L2 ClX
abbrev sMade : Stmt := topT 29
def spMade (K : PySem.W.Frag) (C : Addr) : Sp := fun vs H Q _ => ∃ d rs s e st z, vs = [.ref d] ∧ PlanAt H d rs s e st z ∧ ∀ (x : Addr) (H' : Hp), H x = none → TrAt K C H' x rs s e st z → Same H H' → Q (.ref x) H'
theorem dget_some {H : Hp} {d : Addr} {kvs : List (Key × V)} {k : Key} {v : V} (h : H d = some (.dK kvs)) (e : valV kvs k = some v) : DGet H d (kV k) (some v) := by
  have q := DGet.k (k := k) h
  rw [e] at q
  exact q
section
variable {P : Program} {w : World} {K : PySem.W.Frag} {mg : Str → Option Value} {base : Heap}
/-- Tracker(..) with keywords in any order: what comes of it -/
theorem made_end {C : Addr} {H : Hp} {vs : List V} {gV : List V → List V} {zs : List V} {rs : List Int} {s : Int} {e st z : Str} {Q : VK} {E : XK} (hv : vs = rs.map V.int) (hz : gV zs = [.int s, .str e, .str st, .str z]) (ok : TrOk rs s e st z) (k : ∀ (x : Addr) (H' : Hp), H x = none → TrAt K C H' x rs s e st z → Same H H' → Q (.ref x) H') :
    tMkS C (spTrI K C) gV E vs zs H Q := by
  subst hv
  refine ⟨by rw [List.length_map]; have := ok.n3; omega, fun x dx p hx hdx n1 hp n2 n3 => ?_⟩
  refine ⟨x, dx, p, rs, s, e, st, z, ?_, ?_, .inl (.inl upd_same), ok, fun H' q1 q2 => ⟨rfl, ?_⟩⟩
  · rw [hz]
    rfl
  · rw [upd_ne (Ne.symm n2), upd_same]
  · refine k x H' hx ⟨dx, p, q1, .inl (.inl (q2 p _ n2 upd_same)), ok⟩ fun b o hb => q2 b o (ne_of_none hb hx) ?_
    rw [upd_ne (ne_of_none hb hp), upd_ne (ne_of_none hb hx), upd_ne (ne_of_none hb hdx)]
    exact hb
theorem scMade : FnScope ["_law_plan", "_law_rooms_z"] ["_law_plan"] (defScope sMade) := ⟨rfl, rfl, rfl, by decide +kernel, rfl, by decide +kernel, by decide +kernel⟩
theorem ok_made {f fI C : Addr} {fd : FuncData} (F : Fun K "_law_made_tracker" "_law_made_tracker" sMade f fd) (T : TrF K mg C) (M : Mk K C fI) (zL : mg "len" = none)
    (G1 : FnSt P w K mg base CX0 4 fI ["seek", "empty", "strange", "pause"] (fun zs => mix1 zs []) (spTrI K C)) (G2 : FnSt P w K mg base CX0 4 fI ["pause", "strange", "empty", "seek"] (fun zs => mix2 zs []) (spTrI K C)) (G3 : FnSt P w K mg base CX0 4 fI ["empty", "seek", "pause", "strange"] (fun zs => mix3 zs []) (spTrI K C)) :
    FnOk P w K mg base CX0 6 f fd ["_law_plan"] (spMade K C) := by
  refine F.ok scMade (fun vs H Q E h => ?_) (fun cdv A outer s H vs Q E hr h => ?_)
  · obtain ⟨d, rs, s, e, st, z, rfl, _⟩ := h
    rfl
  · obtain ⟨d, rs, sk, e, st, z, rfl, ⟨kvs, t, hd, _, v1, ht, v2, v3, v4, v5, ok⟩, k⟩ := h
    have nd := scMade.nd
    have hu : (A.deeper (PyProof.Rows.envOfC "_law_made_tracker" (defScope sMade) s.heap.objs.size f cdv)).units + 1 < cLine := by have := hr.units; omega
    refine ⟨_, pss_cons (ps_set (i := 1) nd rfl (Or.inl rfl) (pe_dget hu (pv 0) pe_str (fun _ _ => rfl)))
      (pss_cons (ps_if (pt_cmpR op_eq (pe_callB call_len_seq (by rfl) zL PySem.boot_len (pa_cons (pv 1) pa_nil)) pe_int (nomark _))
        (pss_one (ps_ret (pe_mkS M G1 hr (by rfl) T.at_ pass0 (pa_cons (pe_ix ix_list (pv 1) pe_int (fun _ _ => rfl)) pa_nil) (pk_cons (pe_dget hu (pv 0) pe_str (fun _ _ => rfl)) (pk_cons (pe_dget hu (pv 0) pe_str (fun _ _ => rfl)) (pk_cons (pe_dget hu (pv 0) pe_str (fun _ _ => rfl)) (pk_cons (pe_dget hu (pv 0) pe_str (fun _ _ => rfl)) pk_nil))))))) pss_nil)
      (pss_cons (ps_if (pt_cmpR op_eq (pe_callB call_len_seq (by rfl) zL PySem.boot_len (pa_cons (pv 1) pa_nil)) pe_int (nomark _))
        (pss_one (ps_ret (pe_mkS M G2 hr (by rfl) T.at_ pass0 (pa_cons (pe_ix ix_list (pv 1) pe_int (fun _ _ => rfl)) (pa_cons (pe_ix ix_list (pv 1) pe_int (fun _ _ => rfl)) pa_nil)) (pk_cons (pe_dget hu (pv 0) pe_str (fun _ _ => rfl)) (pk_cons (pe_dget hu (pv 0) pe_str (fun _ _ => rfl)) (pk_cons (pe_dget hu (pv 0) pe_str (fun _ _ => rfl)) (pk_cons (pe_dget hu (pv 0) pe_str (fun _ _ => rfl)) pk_nil))))))) pss_nil)
      (pss_one (ps_ret (pe_mkS M G3 hr (by rfl) T.at_ pass0 (pa_cons (pe_ix ix_list (pv 1) pe_int (fun _ _ => rfl)) (pa_cons (pe_ix ix_list (pv 1) pe_int (fun _ _ => rfl)) (pa_cons (pe_ix ix_list (pv 1) pe_int (fun _ _ => rfl)) pa_nil))) (pk_cons (pe_dget hu (pv 0) pe_str (fun _ _ => rfl)) (pk_cons (pe_dget hu (pv 0) pe_str (fun _ _ => rfl)) (pk_cons (pe_dget hu (pv 0) pe_str (fun _ _ => rfl)) (pk_cons (pe_dget hu (pv 0) pe_str (fun _ _ => rfl)) pk_nil))))))))), ?_⟩
    have g1 := dget_some hd v1
    have g2 := dget_some hd v2
    have g3 := dget_some hd v3
    have g4 := dget_some hd v4
    have g5 := dget_some hd v5
    have hl := SqL.of (K := K) ht
    match rs, ok, hl, k with
    | [a], ok, hl, k =>
      refine ⟨_, rfl, d, _, rfl, g1, _, rfl, t, _, rfl, .inl hl, rfl, _, rfl, iteT ?_⟩
      refine ⟨_, rfl, t, _, _, _, rfl, rfl, hl, rfl, _, rfl, d, _, rfl, g2, _, rfl, d, _, rfl, g3, _, rfl, d, _, rfl, g4, _, rfl, d, _, rfl, g5, rfl, ?_⟩
      exact made_end rfl rfl ok k
    | [a, b], ok, hl, k =>
      refine ⟨_, rfl, d, _, rfl, g1, _, rfl, t, _, rfl, .inl hl, rfl, _, rfl, iteF ?_⟩
      refine ⟨_, rfl, t, _, rfl, .inl hl, rfl, _, rfl, iteT ?_⟩
      refine ⟨_, rfl, t, _, _, _, rfl, rfl, hl, rfl, _, rfl, t, _, _, _, rfl, rfl, hl, rfl, _, rfl, d, _, rfl, g5, _, rfl, d, _, rfl, g4, _, rfl, d, _, rfl, g3, _, rfl, d, _, rfl, g2, rfl, ?_⟩
      exact made_end rfl rfl ok k
    | [a, b, c], ok, hl, k =>
      refine ⟨_, rfl, d, _, rfl, g1, _, rfl, t, _, rfl, .inl hl, rfl, _, rfl, iteF ?_⟩
      refine ⟨_, rfl, t, _, rfl, .inl hl, rfl, _, rfl, iteF ?_⟩
      refine ⟨_, rfl, t, _, _, _, rfl, rfl, hl, rfl, _, rfl, t, _, _, _, rfl, rfl, hl, rfl, _, rfl, t, _, _, _, rfl, rfl, hl, rfl, _, rfl, d, _, rfl, g3, _, rfl, d, _, rfl, g2, _, rfl, d, _, rfl, g5, _, rfl, d, _, rfl, g4, rfl, ?_⟩
      exact made_end rfl rfl ok k
    | [], ok, _, _ => exact absurd ok.n1 (by show ¬ 1 ≤ 0; decide)
    | _ :: _ :: _ :: _ :: l, ok, _, _ => exact absurd ok.n3 (by show ¬ (l.length + 1 + 1 + 1 + 1) ≤ 3; omega)
end
end Own

namespace Own
open PySem L2 ClX
/-- Tracker.changed as it stands behind the top -/
structure TrCh (K : PySem.W.Frag) (f : Addr) : Prop where
  ex : ∃ (oc : Value) (od : Option Addr) (kV doc pm : Value) (an : Option Addr) (cdv ct : Value) (osl : Array (Option Value)), K.lookup f = some ⟨oc, od, .func (PySem.W.fnOf "changed" "Tracker.changed" (defArgs sTC) (defBody sTC) (defScope sTC) .none kV doc pm an cdv ct), osl⟩ ∧ PySem.W.codeIn K cdv "Tracker.changed" = true
  kp : PySem.W.keepIn K (.ref f) = true
section
variable {P : Program} {w : World} {K : PySem.W.Frag} {mg : Str → Option Value} {base : Heap} {f fF fI C : Addr} {gF : FuncData}
/-- what changed leans on -/
structure ChF (P : Program) (w : World) (K : PySem.W.Frag) (mg : Str → Option Value) (base : Heap) (fF fI C : Addr) (gF : FuncData) : Prop where
  T : TrF K mg C
  M : Mk K C fI
  GF : FnOk P w K mg base CX0 1 fF gF ["fields", "names"] (spCkF K)
  mF : mg "check_fields" = some (.ref fF)
  kF : PySem.W.keepIn K (.ref fF) = true
  bF : Binds K gF ["fields", "names"] []
  wf : ∃ t, mg "TRACKER_FIELDS" = some (.ref t) ∧ KT K t fieldsW
  GI : FnSt P w K mg base CX0 4 fI ["seek", "empty", "strange", "pause"] (fun zs => mix1 zs []) (spTrI K C)
theorem ch_of {ks : List Str} (I : TrCh K f) (c : ChF P w K mg base fF fI C gF) (hnd : ks.Nodup) (hsz : ks.length ≤ sizeLine)
    (hb : ∀ (kV doc pm : Value) (an : Option Addr) (cdv ct a : Value) (ws : List Value), ws.length = ks.length → bindArgs (PySem.W.fnOf "changed" "Tracker.changed" (defArgs sTC) (defBody sTC) (defScope sTC) .none kV doc pm an cdv ct) ⟨[a], ks.zip ws⟩ =
      (alloc ({ cls := .type "dict", data := .dict #[] } : Obj) : Sem Addr) >>= fun d => (forIn (ks.zip ws) PUnit.unit fun x _ => (nsSet d x.1 x.2 >>= fun _ => pure (ForInStep.yield PUnit.unit))) >>= fun _ => pure [(("self" : Str), a), (("fields" : Str), Value.ref d)]) :
    FnKw P w K mg base CX0 6 f ks (spCh K C) := by
  obtain ⟨oc, od, kV, doc, pm, an, cdv, ct, osl, lk, hcd⟩ := I.ex
  exact fn_kwo (p0 := "self") (pd := "fields") lk hcd scTC StX.cxUp_none hnd hsz (fun a ws l => hb kV doc pm an cdv ct a ws l)
    (fun A outer s H vs Q E hr h => body_ch c.T c.M c.GF c.mF c.kF c.bF c.wf c.GI hr h)
theorem ch_0 (I : TrCh K f) (c : ChF P w K mg base fF fI C gF) : FnKw P w K mg base CX0 6 f [] (spCh K C) :=
  ch_of I c (by decide) (by decide) (fun kV doc pm an cdv ct a ws l => match ws, l with | [], _ => rfl)
theorem ch_rooms (I : TrCh K f) (c : ChF P w K mg base fF fI C gF) : FnKw P w K mg base CX0 6 f ["rooms"] (spCh K C) :=
  ch_of I c (by decide) (by decide) (fun kV doc pm an cdv ct a ws l => match ws, l with | [_], _ => rfl)
theorem ch_seek (I : TrCh K f) (c : ChF P w K mg base fF fI C gF) : FnKw P w K mg base CX0 6 f ["seek"] (spCh K C) :=
  ch_of I c (by decide) (by decide) (fun kV doc pm an cdv ct a ws l => match ws, l with | [_], _ => rfl)
theorem ch_empty (I : TrCh K f) (c : ChF P w K mg base fF fI C gF) : FnKw P w K mg base CX0 6 f ["empty"] (spCh K C) :=
  ch_of I c (by decide) (by decide) (fun kV doc pm an cdv ct a ws l => match ws, l with | [_], _ => rfl)
theorem ch_strange (I : TrCh K f) (c : ChF P w K mg base fF fI C gF) : FnKw P w K mg base CX0 6 f ["strange"] (spCh K C) :=
  ch_of I c (by decide) (by decide) (fun kV doc pm an cdv ct a ws l => match ws, l with | [_], _ => rfl)
theorem ch_pause (I : TrCh K f) (c : ChF P w K mg base fF fI C gF) : FnKw P w K mg base CX0 6 f ["pause"] (spCh K C) :=
  ch_of I c (by decide) (by decide) (fun kV doc pm an cdv ct a ws l => match ws, l with | [_], _ => rfl)
theorem ch_two (I : TrCh K f) (c : ChF P w K mg base fF fI C gF) : FnKw P w K mg base CX0 6 f ["rooms", "seek"] (spCh K C) :=
  ch_of I c (by decide +kernel) (by decide) (fun kV doc pm an cdv ct a ws l => match ws, l with | [_, _], _ => rfl)
theorem ch_three (I : TrCh K f) (c : ChF P w K mg base fF fI C gF) : FnKw P w K mg base CX0 6 f ["strange", "empty"] (spCh K C) :=
  ch_of I c (by decide +kernel) (by decide) (fun kV doc pm an cdv ct a ws l => match ws, l with | [_, _], _ => rfl)
end
end Own

namespace Own
open PySem L2 ClX
abbrev sLaw : Stmt := topT 30
abbrev NLaw : List Str := ["_law_script", "_law_bag_here", "_law_turn", "_law_plan", "_law_other", "_law_made", "_law_many", "_law_again", "_law_found", "_law_due", "_law_alone", "_law_late", "_law_near", "_law_same_here", "_law_rows", "_law_plain", "_law_name", "_law_room", "_law_one", "_law_row"]
/-- a def of the top, by its name -/
structure DefF (P : Program) (w : World) (K : PySem.W.Frag) (mg : Str → Option Value) (base : Heap) (x : Str) (k : Nat) (ps : List Str) (sp : Sp) (f : Addr) (fd : FuncData) : Prop where
  G : FnOk P w K mg base CX0 k f fd ps sp
  m : mg x = some (.ref f)
  kp : PySem.W.keepIn K (.ref f) = true
  b : Binds K fd ps []
/-- a method of Tracker -/
structure MetF (P : Program) (w : World) (K : PySem.W.Frag) (mg : Str → Option Value) (base : Heap) (C : Addr) (x : Str) (k : Nat) (ps : List Str) (sp : Sp) (f : Addr) (fd : FuncData) : Prop where
  G : FnOk P w K mg base CX0 k f fd ps sp
  m : Meth K C x f
  b : Binds K fd ps []
structure PropF (P : Program) (w : World) (K : PySem.W.Frag) (mg : Str → Option Value) (base : Heap) (C : Addr) (x fld : Str) (p g : Addr) (fd : FuncData) : Prop where
  hp : PropOf K C x p g
  G : FnOk P w K mg base CX0 1 g fd ["self"] (getSp C fld)
  b : Binds K fd ["self"] []
/-- all that the law's own body leans on -/
structure LawF (P : Program) (w : World) (K : PySem.W.Frag) (mg : Str → Option Value) (base : Heap) (C : Addr) : Prop where
  T : TrF K mg C
  TC : TyC K C
  bag : ∃ f fd, DefF P w K mg base "_law_bag" 1 ["_law_script"] (spBag K) f fd
  plan : ∃ f fd, DefF P w K mg base "_law_planned" 3 ["_law_bag_here", "_law_most", "_law_wide"] spPlan f fd
  made : ∃ f fd, DefF P w K mg base "_law_made_tracker" 6 ["_law_plan"] (spMade K C) f fd
  same : ∃ f fd, DefF P w K mg base "_law_same" 4 ["_law_found", "_law_due"] (spSame K 4) f fd
  rooms : ∃ f fd, MetF P w K mg base C "rooms" 1 ["self"] (spRooms K C) f fd
  seek : ∃ p g fd, PropF P w K mg base C "seek" "_seek" p g fd
  empty : ∃ p g fd, PropF P w K mg base C "empty" "_empty" p g fd
  strange : ∃ p g fd, PropF P w K mg base C "strange" "_strange" p g fd
  pause : ∃ p g fd, PropF P w K mg base C "pause" "_pause" p g fd
  len : ∃ f fd, Spec1 K C f "__len__" ∧ FnOk P w K mg base CX0 1 f fd ["self"] (spTLen K C) ∧ Binds K fd ["self"] []
  rep : ∃ f fd, Spec1 K C f "__repr__" ∧ FnOk P w K mg base CX0 1 f fd ["self"] (spTRep K C) ∧ Binds K fd ["self"] []
  eq : ∃ f fd, PySem.W.findIn K (.ref C) "__eq__" = some (some (.ref f)) ∧ PySem.W.isFn K (.ref f) = true ∧ FnOk P w K mg base CX0 2 f fd ["self", "other"] (spTEq K C) ∧ Binds K fd ["self", "other"] []
  ch : ∃ f, Meth K C "changed" f ∧ PySem.W.keepIn K (.ref f) = true ∧ FnKw P w K mg base CX0 6 f [] (spCh K C) ∧ FnKw P w K mg base CX0 6 f ["rooms"] (spCh K C) ∧ FnKw P w K mg base CX0 6 f ["seek"] (spCh K C) ∧ FnKw P w K mg base CX0 6 f ["empty"] (spCh K C) ∧ FnKw P w K mg base CX0 6 f ["strange"] (spCh K C) ∧
    FnKw P w K mg base CX0 6 f ["pause"] (spCh K C) ∧ FnKw P w K mg base CX0 6 f ["rooms", "seek"] (spCh K C) ∧ FnKw P w K mg base CX0 6 f ["strange", "empty"] (spCh K C)
  new : ∃ f, Mk K C f ∧ FnSt P w K mg base CX0 4 f [] (fun _ => [.int 0, .str "none", .str "first", .str "clear"]) (spTrI K C)
  nfC : PySem.W.notFirst K C (.ref C) = true
  nfL : PySem.W.notFirst K C (.type "list") = true
  koL : PySem.W.kitOne K (.type "list") (.ref C) = some false
  zRange : mg "range" = none
  zLen : mg "len" = none
  zRepr : mg "repr" = none
  zStr : mg "str" = none
  zInt : mg "int" = none
  zAny : mg "any" = none
  zDict : mg "dict" = none
  zZip : mg "zip" = none
def spLaw (K : PySem.W.Frag) : Sp := fun vs H Q _ => ∃ (a : Addr) (ns : List Int), vs = [.ref a] ∧ SqL K H a (ns.map V.int) ∧ ns.length ≤ 63 ∧ ∀ H', Q (.bl true) H'
section
variable {P : Program} {w : World} {K : PySem.W.Frag} {mg : Str → Option Value} {base : Heap}
theorem scLaw : FnScope NLaw ["_law_script"] (defScope sLaw) := ⟨rfl, rfl, rfl, by decide +kernel, rfl, by decide +kernel, by decide +kernel⟩
end
end Own

namespace Own
open PySem L2 ClX
theorem BagC.nlst {H : Hp} {p c t : Addr} {rs : List Int} (b : BagC H p c) (h : H t = some (.lst (rs.map V.int))) : t ≠ p := by
  obtain ⟨cs, i, x, y, h1, _⟩ := b
  refine ne_of h h1 (fun z => ?_)
  cases rs with
  | nil => cases z
  | cons r rs => cases z
theorem BagC.nins {H : Hp} {p c a C dx : Addr} {fs : List (Str × V)} (b : BagC H p c) (h : H a = some (.ins C dx fs)) : a ≠ p := by
  obtain ⟨cs, i, x, y, h1, _⟩ := b
  exact ne_of h h1 (fun z => nomatch z)
theorem PlanAt.same {H H' : Hp} {d : Addr} {rs : List Int} {s : Int} {e st z : Str} (h : PlanAt H d rs s e st z) (sm : Same H H') : PlanAt H' d rs s e st z := by
  obtain ⟨kvs, t, h1, h2, h3, h4, h5⟩ := h
  exact ⟨kvs, t, sm _ _ h1, h2, h3, sm _ _ h4, h5⟩
theorem PlanAt.but {H H' : Hp} {d p c : Addr} {rs : List Int} {s : Int} {e st z : Str} (h : PlanAt H d rs s e st z) (b : BagC H p c) (bt : But p H H') : PlanAt H' d rs s e st z := by
  obtain ⟨kvs, t, h1, h2, h3, h4, h5⟩ := h
  refine ⟨kvs, t, bt _ _ ?_ h1, h2, h3, bt _ _ (b.nlst h4) h4, h5⟩
  obtain ⟨cs, i, x, y, h6, _⟩ := b
  exact ne_of h1 h6 (fun z => nomatch z)
theorem sqT_same {K : PySem.W.Frag} {H H' : Hp} {a : Addr} {xs : List V} (h : SqT K H a xs) (sm : Same H H') : SqT K H' a xs := by
  rcases h with (h | ⟨o, h⟩) | h
  · exact .inl (.inl (sm _ _ h))
  · exact .inl (.inr ⟨o, sm _ _ h⟩)
  · exact .inr h
theorem TrAt.same {K : PySem.W.Frag} {C : Addr} {H H' : Hp} {a : Addr} {rs : List Int} {s : Int} {e st z : Str} (h : TrAt K C H a rs s e st z) (sm : Same H H') : TrAt K C H' a rs s e st z := by
  obtain ⟨dx, t, h1, h2, h3⟩ := h
  exact ⟨dx, t, sm _ _ h1, sqT_same h2 sm, h3⟩
/-- what stands throughout a turn of the law -/
structure Tu (K : PySem.W.Frag) (C : Addr) (H : Hp) (bp c d1 d2 tr : Addr) (rs : List Int) (s : Int) (e st z : Str) (rs' : List Int) (s' : Int) (e' st' z' : Str) : Prop where
  bag : BagC H bp c
  p1 : PlanAt H d1 rs s e st z
  p2 : PlanAt H d2 rs' s' e' st' z'
  tr : TrAt K C H tr rs s e st z
theorem dp_ints {K : PySem.W.Frag} {H : Hp} {l : Addr} {rs : List Int} (h : H l = some (.lst (rs.map V.int))) : Dp K H (.ref l) (.list (dInts rs)) := .lst (SqL.of h) (dpAll_ints rs)
def dFound (rs : List Int) (s : Int) (e st z tx : Str) : PyData := .list [.list (dInts rs), .int s, .str e, .str st, .str z, .int (rs.length : Nat), .str tx]
theorem shal_found {rs : List Int} {s : Int} {e st z tx : Str} (h : rs.length ≤ 3) : Shal 3 (dFound rs s e st z tx) := by
  refine .lst (fun d hd => ?_) (by show 7 ≤ 1000; decide)
  simp only [List.mem_cons, List.not_mem_nil, or_false] at hd
  rcases hd with rfl | rfl | rfl | rfl | rfl | rfl | rfl
  · refine .lst (fun d hd => ?_) (by unfold dInts; rw [List.length_map]; omega)
    obtain ⟨i, _, rfl⟩ := List.mem_map.mp hd
    exact .int i
  · exact .int _
  · exact .str _
  · exact .str _
  · exact .str _
  · exact .int _
  · exact .str _
theorem Tu.same {K : PySem.W.Frag} {C : Addr} {H H' : Hp} {bp c d1 d2 tr : Addr} {rs rs' : List Int} {s s' : Int} {e st z e' st' z' : Str} (h : Tu K C H bp c d1 d2 tr rs s e st z rs' s' e' st' z') (sm : Same H H') : Tu K C H' bp c d1 d2 tr rs s e st z rs' s' e' st' z' :=
  ⟨h.bag.same sm, h.p1.same sm, h.p2.same sm, h.tr.same sm⟩
theorem Tu.new {K : PySem.W.Frag} {C : Addr} {H : Hp} {bp c d1 d2 tr l : Addr} {o : HO} {rs rs' : List Int} {s s' : Int} {e st z e' st' z' : Str} (h : Tu K C H bp c d1 d2 tr rs s e st z rs' s' e' st' z') (hl : H l = none) : Tu K C (upd H l o) bp c d1 d2 tr rs s e st z rs' s' e' st' z' :=
  h.same ((Same.refl _).new hl)
theorem fv_nil {x : Str} {d : V} : fv [] x d = d := rfl
theorem fv_hit {x : Str} {v d : V} {l : List (Str × V)} : fv ((x, v) :: l) x d = v := by
  unfold fv kwV
  rw [List.map_cons, valV_pos rfl]
  rfl
theorem fv_miss {x y : Str} {v d : V} {l : List (Str × V)} (h : ¬ y = x) : fv ((y, v) :: l) x d = fv l x d := by
  unfold fv kwV
  rw [List.map_cons, valV_neg (fun z => h (Sum.inr.inj z))]
theorem ch_end {K : PySem.W.Frag} {C : Addr} {H : Hp} {a p : Addr} {l : List (Str × V)} {rs rs' : List Int} {s s' : Int} {e st z e' st' z' : Str} {Q : VK} {E : XK} (tr : TrAt K C H a rs s e st z) (hp : H p = none) (hk : ∀ q, q ∈ l → inV (.str q.1) fieldsW = true)
    (h1 : (rs' = rs ∧ ∀ d, fv l "rooms" d = d) ∨ ∃ D, H D = some (.lst (rs'.map V.int)) ∧ ∀ d, fv l "rooms" d = .ref D) (h2 : fv l "seek" (.int s) = .int s') (h3 : fv l "empty" (.str e) = .str e') (h4 : fv l "strange" (.str st) = .str st') (h5 : fv l "pause" (.str z) = .str z') (ok : TrOk rs' s' e' st' z')
    (k : ∀ (x : Addr) (H' : Hp), H x = none → TrAt K C H' x rs' s' e' st' z' → Same H H' → Q (.ref x) H') : spCh K C [.ref a, .ref p] (upd H p (.dK (kwV l))) Q E := by
  obtain ⟨dx, t, ha, ht, _⟩ := tr
  have sm : Same H (upd H p (.dK (kwV l))) := (Same.refl _).new hp
  obtain ⟨t', e1, q1⟩ : ∃ t', fv l "rooms" (.ref t) = .ref t' ∧ (SqT K (upd H p (.dK (kwV l))) t' (rs'.map V.int) ∨ SqL K (upd H p (.dK (kwV l))) t' (rs'.map V.int)) := by
    rcases h1 with ⟨rfl, h⟩ | ⟨D, hD, h⟩
    · exact ⟨t, h _, .inl (sqT_same ht sm)⟩
    · exact ⟨D, h _, .inr (SqL.of (sm _ _ hD))⟩
  refine ⟨a, p, dx, t, t', l, s, s', e, st, z, e', st', z', rs', rfl, sm _ _ ha, upd_same, hk, e1, q1, h2, h3, h4, h5, ok, fun x H' hx tr' sm' => k x H' ?_ tr' fun b o hb => sm' b o (sm b o hb)⟩
  by_cases q : x = p
  · rw [q]; exact hp
  · rw [upd_ne q] at hx; exact hx
/-- the rooms of the first of the law's others -/
def turnR (rs : List Int) : List Int := rs.map fun r => 1 + r % 4
theorem turnR_ok {rs : List Int} {s : Int} {e st z : Str} (ok : TrOk rs s e st z) : TrOk (turnR rs) s e st z :=
  ⟨by unfold turnR; rw [List.length_map]; exact ok.n1, by unfold turnR; rw [List.length_map]; exact ok.n3, fun r hr => by
    obtain ⟨x, hx, rfl⟩ := List.mem_map.mp hr
    omega, ok.s0, ok.s3, ok.e, ok.st, ok.p⟩
theorem turnR_ne {rs : List Int} {s : Int} {e st z : Str} (ok : TrOk rs s e st z) : turnR rs ≠ rs := by
  have h1 := ok.n1
  have h2 := ok.rr
  cases rs with
  | nil => cases h1
  | cons r l =>
    intro h
    have h3 := h2 r (List.mem_cons_self ..)
    have h4 : 1 + r % 4 = r := (List.cons.inj h).1
    omega
/-- 'a' if c else 'b' -/
theorem pe_ifStr {X : Cx} {c : Expr} {a b : Str} {ja jb : Nat} {pa_ pb pos : Pos} {tA : TT} (hc : PT X c tA) : PE X (.IfExp c (.Constant (.str a) ja pa_) (.Constant (.str b) jb pb) pos) (fun σ H Q => tA σ H fun k H1 => Q (.str (if k = true then a else b)) H1) :=
  ⟨fun pins s σ H Q I h => (pe_ifExp hc pe_str pe_str).run pins s σ H Q I (by
    have e : (fun (k : Bool) (H1 : Hp) => Q (.str (if k = true then a else b)) H1) = fun (k : Bool) (H1 : Hp) => if k = true then Q (.str a) H1 else Q (.str b) H1 := by
      funext k H1
      cases k <;> rfl
    have h2 := h
    rw [e] at h2
    exact h2)⟩
theorem in_two {e a b : Str} (h : inV (.str e) [.str a, .str b] = true) : e = a ∨ e = b := by
  have h2 : (a == e || (b == e || false)) = true := h
  simp only [Bool.or_eq_true, beq_iff_eq, Bool.or_false] at h2
  rcases h2 with h | h
  · exact .inl h.symm
  · exact .inr h.symm
theorem flip_two {e a b : Str} (hab : b ≠ a) (h : inV (.str e) [.str a, .str b] = true) : (if decide (V.str e = V.str a) = true then b else a) ≠ e ∧ inV (.str (if decide (V.str e = V.str a) = true then b else a)) [.str a, .str b] = true := by
  have ha : inV (.str a) [.str a, .str b] = true := by
    show (a == a || (b == a || false)) = true
    rw [beq_self_eq_true]
    rfl
  have hb : inV (.str b) [.str a, .str b] = true := by
    show (a == b || (b == b || false)) = true
    rw [beq_self_eq_true, Bool.true_or, Bool.or_true]
  rcases in_two h with rfl | rfl
  · rw [if_pos (decide_eq_true rfl)]
    exact ⟨hab, hb⟩
  · rw [if_neg (by rw [decide_eq_true_eq]; exact fun z => hab (V.str.inj z))]
    exact ⟨hab.symm, ha⟩
theorem eqT_no {rs rs' : List Int} {s s' : Int} {e st z e' st' z' : Str} (h : rs ≠ rs' ∨ s ≠ s' ∨ e ≠ e' ∨ st ≠ st' ∨ z ≠ z') : eqT rs s e st z rs' s' e' st' z' = false := by
  rw [Bool.eq_false_iff]
  intro q
  unfold eqT at q
  rw [Bool.and_eq_true, Bool.and_eq_true, Bool.and_eq_true, Bool.and_eq_true, decide_eq_true_eq, decide_eq_true_eq, decide_eq_true_eq, decide_eq_true_eq, decide_eq_true_eq] at q
  obtain ⟨q1, q2, q3, q4, q5⟩ := q
  rcases h with h | h | h | h | h
  · exact h q1
  · exact h (V.int.inj q2)
  · exact h (V.str.inj q3)
  · exact h (V.str.inj q4)
  · exact h (V.str.inj q5)
/-- a tracker that isn't like this one -/
def Other (K : PySem.W.Frag) (C : Addr) (H : Hp) (rs : List Int) (s : Int) (e st z : Str) (y : V) : Prop := ∃ x rs' s' e' st' z', y = .ref x ∧ TrAt K C H x rs' s' e' st' z' ∧ eqT rs' s' e' st' z' rs s e st z = false ∧ eqT rs s e st z rs' s' e' st' z' = false
theorem other_of {K : PySem.W.Frag} {C : Addr} {H : Hp} {x : Addr} {rs rs' : List Int} {s s' : Int} {e st z e' st' z' : Str} (t : TrAt K C H x rs' s' e' st' z') (h : rs' ≠ rs ∨ s' ≠ s ∨ e' ≠ e ∨ st' ≠ st ∨ z' ≠ z) : Other K C H rs s e st z (.ref x) :=
  ⟨x, rs', s', e', st', z', rfl, t, eqT_no h, eqT_no (h.imp Ne.symm (Or.imp Ne.symm (Or.imp Ne.symm (Or.imp Ne.symm Ne.symm))))⟩
theorem shaped_two {e a b : Str} (h : inV (.str e) [.str a, .str b] = true) (ha : SeqAt.shaped (.str a) = true) (hb : SeqAt.shaped (.str b) = true) : SeqAt.shaped (.str e) = true := by
  rcases in_two h with rfl | rfl
  · exact ha
  · exact hb
def nearL (rs : List Int) (s : Int) (e st z : Str) (rs' : List Int) (s' : Int) (e' st' z' : Str) : List Bool := [decide (rs = rs'), s == s', e == e', st == st', z == z']
theorem near_eq {rs rs' : List Int} {s s' : Int} {e st z e' st' z' : Str} : PyData.eqv (.list ((nearL rs s e st z rs' s' e' st' z').map PyData.bool)) (.list [.bool true, .bool true, .bool true, .bool true, .bool true]) = eqT rs s e st z rs' s' e' st' z' := by
  have h1 : decide (V.int s = V.int s') = (s == s') := L2.dec_int
  have h2 : ∀ x y : Str, decide (V.str x = V.str y) = (x == y) := fun x y => by
    rw [Bool.eq_iff_iff, decide_eq_true_eq, beq_iff_eq]
    exact ⟨V.str.inj, fun h => by rw [h]⟩
  unfold eqT nearL
  rw [h1, h2, h2, h2]
  simp [PyData.eqv, PyData.eqvAll]
theorem eqT_refl {rs : List Int} {s : Int} {e st z : Str} : eqT rs s e st z rs s e st z = true := by
  unfold eqT
  rw [decide_eq_true rfl, decide_eq_true rfl, decide_eq_true rfl, decide_eq_true rfl, decide_eq_true rfl]
  rfl
theorem dpAll_bls {K : PySem.W.Frag} {H : Hp} : ∀ bs : List Bool, DpAll K H (bs.map V.bl) (bs.map PyData.bool)
  | [] => .nil
  | _ :: bs => .cons (.bl _) (dpAll_bls bs)
theorem shal_bls {n : Nat} {bs : List Bool} (h : bs.length ≤ 1000) : Shal (n + 1) (.list (bs.map PyData.bool)) := by
  refine .lst (fun d hd => ?_) (by rw [List.length_map]; exact h)
  obtain ⟨b, _, rfl⟩ := List.mem_map.mp hd
  exact .bl b
theorem keys_two {a b : Str} {u v : V} (ha : inV (.str a) fieldsW = true) (hb : inV (.str b) fieldsW = true) : ∀ q, q ∈ ([(a, u), (b, v)] : List (Str × V)) → inV (.str q.1) fieldsW = true := fun q hq => by
  rcases List.mem_cons.mp hq with h | h
  · rw [h]; exact ha
  · rw [List.mem_singleton.mp h]; exact hb
end Own

namespace Own
open PySem L2 ClX
theorem len_put_old {kvs : List (Key × V)} {k : Key} {v x : V} (h : valV kvs k = some x) : (putK kvs k v).length = kvs.length := by
  unfold putK
  rw [valV_any, h]
  show (kvs.map _).length = _
  rw [List.length_map]
/-- a tracker and a plan of it -/
def MatchR (K : PySem.W.Frag) (C : Addr) (H : Hp) (x row : V) : Prop := ∃ a d rs s e st z, x = .ref a ∧ row = .ref d ∧ TrAt K C H a rs s e st z ∧ PlanAt H d rs s e st z
theorem MatchR.same {K : PySem.W.Frag} {C : Addr} {H H' : Hp} {x row : V} (h : MatchR K C H x row) (sm : Same H H') : MatchR K C H' x row := by
  obtain ⟨a, d, rs, s, e, st, z, e1, e2, t, p⟩ := h
  exact ⟨a, d, rs, s, e, st, z, e1, e2, t.same sm, p.same sm⟩
theorem plan_rs {H : Hp} {d t : Addr} {kv : List (Key × V)} {rs : List Int} {s s0 : Int} {e st z : Str} {x : V} (hd : H d = some (.dK (putK (putK kv (Sum.inr "rooms") (.ref t)) (Sum.inr "seek") (.int s)))) (ht : H t = some (.lst (rs.map V.int))) (ln : kv.length ≤ 15)
    (u1 : valV kv (Sum.inr "rooms") = some x) (u2 : valV kv (Sum.inr "seek") = some (.int s0)) (u3 : valV kv (Sum.inr "empty") = some (.str e)) (u4 : valV kv (Sum.inr "strange") = some (.str st)) (u5 : valV kv (Sum.inr "pause") = some (.str z)) (ok : TrOk rs s e st z) : PlanAt H d rs s e st z := by
  have n1 : ¬ (Sum.inr "rooms" : Key) = (Sum.inr "seek" : Key) := by
    intro z
    exact absurd (Sum.inr.inj z) (by decide +kernel)
  refine ⟨_, t, hd, ?_, ?_, ht, ?_, ?_, ?_, ?_, ok⟩
  · rw [len_put_old (x := .int s0), len_put_old (x := x) u1]
    · exact ln
    · rw [valV_put, if_neg (fun z => n1 z.symm)]; exact u2
  · rw [valV_put, if_neg n1, valV_put, if_pos rfl]
  · rw [valV_put, if_pos rfl]
  · rw [valV_put, if_neg (fun z => absurd (Sum.inr.inj z) (by decide +kernel)), valV_put, if_neg (fun z => absurd (Sum.inr.inj z) (by decide +kernel))]; exact u3
  · rw [valV_put, if_neg (fun z => absurd (Sum.inr.inj z) (by decide +kernel)), valV_put, if_neg (fun z => absurd (Sum.inr.inj z) (by decide +kernel))]; exact u4
  · rw [valV_put, if_neg (fun z => absurd (Sum.inr.inj z) (by decide +kernel)), valV_put, if_neg (fun z => absurd (Sum.inr.inj z) (by decide +kernel))]; exact u5
theorem plan_z {H : Hp} {d t : Addr} {kv : List (Key × V)} {rs : List Int} {s : Int} {e st z : Str} {x : V} (hd : H d = some (.dK (putK kv (Sum.inr "pause") (.str z)))) (ht : H t = some (.lst (rs.map V.int))) (ln : kv.length ≤ 15)
    (u1 : valV kv (Sum.inr "rooms") = some (.ref t)) (u2 : valV kv (Sum.inr "seek") = some (.int s)) (u3 : valV kv (Sum.inr "empty") = some (.str e)) (u4 : valV kv (Sum.inr "strange") = some (.str st)) (u5 : valV kv (Sum.inr "pause") = some x) (ok : TrOk rs s e st z) : PlanAt H d rs s e st z := by
  refine ⟨_, t, hd, ?_, ?_, ht, ?_, ?_, ?_, ?_, ok⟩
  · rw [len_put_old (x := x) u5]; exact ln
  · rw [valV_put, if_neg (fun z => absurd (Sum.inr.inj z) (by decide +kernel))]; exact u1
  · rw [valV_put, if_neg (fun z => absurd (Sum.inr.inj z) (by decide +kernel))]; exact u2
  · rw [valV_put, if_neg (fun z => absurd (Sum.inr.inj z) (by decide +kernel))]; exact u3
  · rw [valV_put, if_neg (fun z => absurd (Sum.inr.inj z) (by decide +kernel))]; exact u4
  · rw [valV_put, if_pos rfl]
theorem plan_se {H : Hp} {d t : Addr} {kv : List (Key × V)} {rs : List Int} {s : Int} {e st z e0 : Str} {x : V} (hd : H d = some (.dK (putK (putK kv (Sum.inr "strange") (.str st)) (Sum.inr "empty") (.str e)))) (ht : H t = some (.lst (rs.map V.int))) (ln : kv.length ≤ 15)
    (u1 : valV kv (Sum.inr "rooms") = some (.ref t)) (u2 : valV kv (Sum.inr "seek") = some (.int s)) (u3 : valV kv (Sum.inr "empty") = some (.str e0)) (u4 : valV kv (Sum.inr "strange") = some x) (u5 : valV kv (Sum.inr "pause") = some (.str z)) (ok : TrOk rs s e st z) : PlanAt H d rs s e st z := by
  have n1 : ¬ (Sum.inr "strange" : Key) = (Sum.inr "empty" : Key) := by
    intro z
    exact absurd (Sum.inr.inj z) (by decide +kernel)
  refine ⟨_, t, hd, ?_, ?_, ht, ?_, ?_, ?_, ?_, ok⟩
  · rw [len_put_old (x := .str e0), len_put_old (x := x) u4]
    · exact ln
    · rw [valV_put, if_neg (fun z => n1 z.symm)]; exact u3
  · rw [valV_put, if_neg (fun z => absurd (Sum.inr.inj z) (by decide +kernel)), valV_put, if_neg (fun z => absurd (Sum.inr.inj z) (by decide +kernel))]; exact u1
  · rw [valV_put, if_neg (fun z => absurd (Sum.inr.inj z) (by decide +kernel)), valV_put, if_neg (fun z => absurd (Sum.inr.inj z) (by decide +kernel))]; exact u2
  · rw [valV_put, if_pos rfl]
  · rw [valV_put, if_neg n1, valV_put, if_pos rfl]
  · rw [valV_put, if_neg (fun z => absurd (Sum.inr.inj z) (by decide +kernel)), valV_put, if_neg (fun z => absurd (Sum.inr.inj z) (by decide +kernel))]; exact u5
end Own

namespace Own
open PySem L2 ClX
section
variable {P : Program} {w : World} {K : PySem.W.Frag} {mg : Str → Option Value} {base : Heap}
theorem ok_law {f C : Addr} {fd : FuncData} (F : Fun K "law" "law" sLaw f fd) (L : LawF P w K mg base C) : FnOk P w K mg base CX0 7 f fd ["_law_script"] (spLaw K) := by
  obtain ⟨fB, gB, B⟩ := L.bag
  obtain ⟨fP, gP, Pl⟩ := L.plan
  obtain ⟨fM, gM, Ma⟩ := L.made
  obtain ⟨fS, gS, Sa⟩ := L.same
  obtain ⟨fr, gr, Ro⟩ := L.rooms
  obtain ⟨p1, f1, g1, P1⟩ := L.seek
  obtain ⟨p2, f2, g2, P2⟩ := L.empty
  obtain ⟨p3, f3, g3, P3⟩ := L.strange
  obtain ⟨p4, f4, g4, P4⟩ := L.pause
  obtain ⟨fL, gL, sL, GL, bL⟩ := L.len
  obtain ⟨fR, gR, sR, GR, bR⟩ := L.rep
  obtain ⟨fE, gE, eAt, eFn, GE, bE⟩ := L.eq
  obtain ⟨fC, cM, cK, c0, c1, c2, c3, c4, c5, c6, c7⟩ := L.ch
  obtain ⟨fI, Mk0, GI⟩ := L.new
  have T := L.T
  refine F.ok scLaw (fun vs H Q E h => ?_) (fun cdv A outer s H vs Q E hr h => ?_)
  · obtain ⟨a, ns, rfl, _⟩ := h
    rfl
  · obtain ⟨a, ns, rfl, hS, hlen, k⟩ := h
    have nd := scLaw.nd
    have hu : (A.deeper (PyProof.Rows.envOfC "law" (defScope sLaw) s.heap.objs.size f cdv)).units + 1 < cLine := by have := hr.units; omega
    have hr5 := hr.mono (j := 5) (by decide)
    have hr4 := hr.mono (j := 4) (by decide)
    have hr3 := hr.mono (j := 3) (by decide)
    have hr2 := hr.mono (j := 2) (by decide)
    have hr1 := hr.mono (j := 1) (by decide)
    refine ⟨_, (pss_cons (ps_set (i := 1) nd rfl (Or.inl rfl) (pe_call B.G hr1 rfl B.m B.kp B.b .nil pass0 (pa_cons (pv 0) pa_nil)))
      (pss_cons (ps_for PassesOwn.never rfl (pi_range1 (by rfl) L.zRange (pa_cons pe_int pa_nil)) (pg_name (i := 2) nd rfl (Or.inl rfl))
      (pss_cons (ps_asg (pe_tup (pa_cons (pe_call Pl.G hr3 rfl Pl.m Pl.kp Pl.b .nil pass0 (pa_cons (pv 1) (pa_cons pe_int (pa_cons pe_int pa_nil)))) (pa_cons (pe_call Pl.G hr3 rfl Pl.m Pl.kp Pl.b .nil pass0 (pa_cons (pv 1) (pa_cons pe_int (pa_cons pe_int pa_nil)))) pa_nil))) (pg_tup rfl (pgs_cons (pg_name (i := 3) nd rfl (Or.inr rfl)) (pgs_cons (pg_name (i := 4) nd rfl (Or.inr rfl)) pgs_nil))))
      (pss_cons (ps_asg (pe_tup (pa_cons (pe_call Ma.G hr rfl Ma.m Ma.kp Ma.b .nil pass0 (pa_cons (pv 3) pa_nil)) (pa_cons (pe_callB call_len_seq (by rfl) L.zLen PySem.boot_len (pa_cons (pe_dget hu (pv 3) pe_str (fun _ _ => rfl)) pa_nil)) pa_nil))) (pg_tup rfl (pgs_cons (pg_name (i := 5) nd rfl (Or.inr rfl)) (pgs_cons (pg_name (i := 6) nd rfl (Or.inl rfl)) pgs_nil))))
      (pss_cons (ps_for PassesOwn.never rfl (pi_range1 (by rfl) L.zRange (pa_cons pe_int pa_nil)) (pg_name (i := 7) nd rfl (Or.inl rfl))
      (pss_cons (ps_set (i := 8) nd rfl (Or.inl rfl) (pe_lst (pa_cons (pe_meth0 (pv 5) T.cl Ro.m Ro.G hr1 Ro.b .nil pass0) (pa_cons (pe_prop (pv 5) T.cl P1.hp P1.G hr2 P1.b .nil pass0 rfl) (pa_cons (pe_prop (pv 5) T.cl P2.hp P2.G hr2 P2.b .nil pass0 rfl) (pa_cons (pe_prop (pv 5) T.cl P3.hp P3.G hr2 P3.b .nil pass0 rfl) (pa_cons (pe_prop (pv 5) T.cl P4.hp P4.G hr2 P4.b .nil pass0 rfl) (pa_cons (pe_callB (call_lenO sL GL hr2 bL pass0) (by rfl) L.zLen PySem.boot_len (pa_cons (pv 5) pa_nil)) (pa_cons (pe_callB (call_repO sR GR hr2 bR pass0) (by rfl) L.zRepr (by decide +kernel) (pa_cons (pv 5) pa_nil)) pa_nil)))))))))
      (pss_cons (ps_setLc (i := 9) (own := [("_law_name", 16)]) (g := gName 16) (tt := tYes) rfl nd rfl rfl (sw_true rfl rfl rfl (by decide +kernel)) (pi_list (pe_lst (pa_cons pe_str (pa_cons pe_str (pa_cons pe_str (pa_cons pe_str (pa_cons pe_str pa_nil))))))) (blkOk_by (N := NLaw) (sc := defScope sLaw) (by decide +kernel)) (fun _ _ _ _ _ => (pg_name (i := 16) nd rfl (Or.inl rfl))) (fun _ _ _ _ _ => pts_nil) (fun _ _ _ _ _ => (pe_dget hu (pv 3) (pv 16) (fun _ _ => rfl))))
      (pss_cons (ps_if (pt_not (pt_val (pe_call Sa.G hr4 rfl Sa.m Sa.kp Sa.b .nil pass0 (pa_cons (pv 8) (pa_cons (pe_op op_cat (pv 9) (pe_lst (pa_cons (pv 6) (pa_cons (pe_op op_add_str (pe_op op_add_str pe_str (pe_callTy call_str_int (by rfl) L.zStr (by decide +kernel) (pa_cons (pv 6) pa_nil))) pe_str) pa_nil)))) pa_nil))))) (pss_one (ps_ret pe_bl)) pss_nil)
      (pss_one (ps_expr (pe_bm0 PySem.F.plainAttrs_list PySem.F.slot_list_clear PySem.F.type_list_clear mt_clear (pe_meth0 (pv 5) T.cl Ro.m Ro.G hr1 Ro.b .nil pass0))))))))
      (pss_cons (ps_set (i := 10) nd rfl (Or.inl rfl) (pe_lst (pa_cons (pe_methKw T.cl cM c1 hr cK pass0 (pv 5) (pk_cons (pe_lc (own := [("_law_room", 17)]) (g := gName 17) (tt := tYes) rfl nd (pi_list (pe_dget hu (pv 3) pe_str (fun _ _ => rfl))) (blkOk_by (N := NLaw) (sc := defScope sLaw) (by decide +kernel)) (fun _ _ _ _ _ => (pg_name (i := 17) nd rfl (Or.inl rfl))) (fun _ _ _ _ _ => pts_nil) (fun _ _ _ _ _ => (pe_op op_add pe_int (pe_op op_mod (pe_callTy call_int1 (by rfl) L.zInt (by decide +kernel) (pa_cons (pv 17) pa_nil)) pe_int)))) pk_nil)) (pa_cons (pe_methKw T.cl cM c2 hr cK pass0 (pv 5) (pk_cons (pe_op op_mod (pe_callTy call_int1 (by rfl) L.zInt (by decide +kernel) (pa_cons (pe_op op_add (pe_dget hu (pv 3) pe_str (fun _ _ => rfl)) pe_int) pa_nil)) pe_int) pk_nil)) (pa_cons (pe_methKw T.cl cM c3 hr cK pass0 (pv 5) (pk_cons (pe_ifStr (pt_cmpR op_eq (pe_dget hu (pv 3) pe_str (fun _ _ => rfl)) pe_str (nomark _))) pk_nil)) (pa_cons (pe_methKw T.cl cM c4 hr cK pass0 (pv 5) (pk_cons (pe_ifStr (pt_cmpR op_eq (pe_dget hu (pv 3) pe_str (fun _ _ => rfl)) pe_str (nomark _))) pk_nil)) (pa_cons (pe_methKw T.cl cM c5 hr cK pass0 (pv 5) (pk_cons (pe_ifStr (pt_cmpR op_eq (pe_dget hu (pv 3) pe_str (fun _ _ => rfl)) pe_str (nomark _))) pk_nil)) pa_nil)))))))
      (pss_cons (ps_if (pt_val (pe_callB (cr_any rfl) (by rfl) L.zAny (by decide +kernel) (pa_cons (pe_lc (own := [("_law_one", 18)]) (g := gName 18) (tt := tYes) rfl nd (pi_list (pv 10)) (blkOk_by (N := NLaw) (sc := defScope sLaw) (by decide +kernel)) (fun _ _ _ _ _ => (pg_name (i := 18) nd rfl (Or.inl rfl))) (fun _ _ _ _ _ => pts_nil) (fun _ _ _ _ _ => (pe_or (pe_cmpR (r := rOwn K C (spTEq K C)) (op_own GE hr2 eAt eFn bE pass0) (pv 18) (pv 5) (nomark _)) (pe_one (pe_cmpR (r := rOwn K C (spTEq K C)) (op_own GE hr2 eAt eFn bE pass0) (pv 5) (pv 18) (nomark _)))))) pa_nil))) (pss_one (ps_ret pe_bl)) pss_nil)
      (pss_cons (ps_set (i := 11) nd rfl (Or.inl rfl) (pe_call Ma.G hr rfl Ma.m Ma.kp Ma.b .nil pass0 (pa_cons (pv 4) pa_nil)))
      (pss_cons (ps_setLc (i := 12) (own := [("_law_name", 16)]) (g := gName 16) (tt := tYes) rfl nd rfl rfl (sw_true rfl rfl rfl (by decide +kernel)) (pi_list (pe_lst (pa_cons pe_str (pa_cons pe_str (pa_cons pe_str (pa_cons pe_str (pa_cons pe_str pa_nil))))))) (blkOk_by (N := NLaw) (sc := defScope sLaw) (by decide +kernel)) (fun _ _ _ _ _ => (pg_name (i := 16) nd rfl (Or.inl rfl))) (fun _ _ _ _ _ => pts_nil) (fun _ _ _ _ _ => (pe_cmpR (r := rEqD K) (op_eqD hr.units) (pe_dget hu (pv 3) (pv 16) (fun _ _ => rfl)) (pe_dget hu (pv 4) (pv 16) (fun _ _ => rfl)) (nomark _))))
      (pss_cons (ps_set (i := 13) nd rfl (Or.inl rfl) (pe_lst (pa_cons (pe_cmpR (r := rOwn K C (spTEq K C)) (op_own GE hr2 eAt eFn bE pass0) (pv 5) (pe_call Ma.G hr rfl Ma.m Ma.kp Ma.b .nil pass0 (pa_cons (pv 3) pa_nil)) (nomark _)) (pa_cons (pe_cmpR (r := rOwn K C (spTEq K C)) (op_own GE hr2 eAt eFn bE pass0) (pv 5) (pv 11) (nomark _)) (pa_cons (pe_cmpR (r := rOwn K C (spTEq K C)) (op_own GE hr2 eAt eFn bE pass0) (pv 5) (pe_dget hu (pv 3) pe_str (fun _ _ => rfl)) (nomark _)) pa_nil)))))
      (pss_cons (ps_if (pt_not (pt_val (pe_call Sa.G hr4 rfl Sa.m Sa.kp Sa.b .nil pass0 (pa_cons (pv 13) (pa_cons (pe_lst (pa_cons pe_bl (pa_cons (pe_cmpR (r := rEqD K) (op_eqD hr.units) (pv 12) (pe_op op_rep (pe_lst (pa_cons pe_bl pa_nil)) pe_int) (nomark _)) (pa_cons pe_bl pa_nil)))) pa_nil))))) (pss_one (ps_ret pe_bl)) pss_nil)
      (pss_cons (ps_set (i := 8) nd rfl (Or.inl rfl) (pe_lst (pa_cons (pe_methKw T.cl cM c0 hr cK pass0 (pv 5) pk_nil) (pa_cons (pe_methKw T.cl cM c6 hr cK pass0 (pv 5) (pk_cons (pe_dget hu (pv 4) pe_str (fun _ _ => rfl)) (pk_cons (pe_dget hu (pv 4) pe_str (fun _ _ => rfl)) pk_nil))) (pa_cons (pe_methKw T.cl cM c5 hr cK pass0 (pv 5) (pk_cons (pe_dget hu (pv 4) pe_str (fun _ _ => rfl)) pk_nil)) (pa_cons (pe_methKw T.cl cM c7 hr cK pass0 (pv 5) (pk_cons (pe_dget hu (pv 4) pe_str (fun _ _ => rfl)) (pk_cons (pe_dget hu (pv 4) pe_str (fun _ _ => rfl)) pk_nil))) pa_nil))))))
      (pss_cons (ps_set (i := 14) nd rfl (Or.inl rfl) (pe_lst (pa_cons (pv 3) (pa_cons (pe_callTy call_dictD (by rfl) L.zDict (by decide +kernel) (pa_cons (pv 3) pa_nil)) (pa_cons (pe_callTy call_dictD (by rfl) L.zDict (by decide +kernel) (pa_cons (pv 3) pa_nil)) (pa_cons (pe_callTy call_dictD (by rfl) L.zDict (by decide +kernel) (pa_cons (pv 3) pa_nil)) pa_nil))))))
      (pss_cons (ps_asg (pe_tup (pa_cons (pe_dget hu (pv 4) pe_str (fun _ _ => rfl)) (pa_cons (pe_dget hu (pv 4) pe_str (fun _ _ => rfl)) pa_nil))) (pg_tup rfl (pgs_cons (pg_sub (pe_ix ix_list (pv 14) pe_int (fun _ _ => rfl)) pe_str (set_dict hu)) (pgs_cons (pg_sub (pe_ix ix_list (pv 14) pe_int (fun _ _ => rfl)) pe_str (set_dict hu)) pgs_nil))))
      (pss_cons (ps_asg (pe_dget hu (pv 4) pe_str (fun _ _ => rfl)) (pg_sub (pe_ix ix_list (pv 14) pe_int (fun _ _ => rfl)) pe_str (set_dict hu)))
      (pss_cons (ps_asg (pe_tup (pa_cons (pe_dget hu (pv 4) pe_str (fun _ _ => rfl)) (pa_cons (pe_dget hu (pv 4) pe_str (fun _ _ => rfl)) pa_nil))) (pg_tup rfl (pgs_cons (pg_sub (pe_ix ix_list (pv 14) pe_int (fun _ _ => rfl)) pe_str (set_dict hu)) (pgs_cons (pg_sub (pe_ix ix_list (pv 14) pe_int (fun _ _ => rfl)) pe_str (set_dict hu)) pgs_nil))))
      (pss_one (ps_if (pt_not (pt_val (pe_call Sa.G hr4 rfl Sa.m Sa.kp Sa.b .nil pass0 (pa_cons (pe_lc (own := [("_law_one", 18), ("_law_row", 19)]) (g := gTup K 2 (gCons (gName 18) (gCons (gName 19) gNil))) (tt := tYes) rfl nd (RZ.pi_zipA (by rfl) L.zZip (pa_cons (pv 8) (pa_cons (pv 14) pa_nil))) (blkOk_by (N := NLaw) (sc := defScope sLaw) (by decide +kernel)) (fun _ _ _ _ _ => pg_tup rfl (pgs_cons (pg_name (i := 18) nd rfl (.inl rfl) (hf := Or.inr rfl)) (pgs_cons (pg_name (i := 19) nd rfl (.inl rfl) (hf := Or.inr rfl)) pgs_nil))) (fun _ _ _ _ _ => pts_nil) (fun _ _ _ _ _ => (pe_cmpR (r := rOwn K C (spTEq K C)) (op_own GE hr2 eAt eFn bE pass0) (pv 18) (pe_call Ma.G hr rfl Ma.m Ma.kp Ma.b .nil pass0 (pa_cons (pv 19) pa_nil)) (nomark _)))) (pa_cons (pe_op op_rep (pe_lst (pa_cons pe_bl pa_nil)) pe_int) pa_nil))))) (pss_one (ps_ret pe_bl)) pss_nil)))))))))))))))))
      (pss_cons (ps_set (i := 15) nd rfl (Or.inl rfl) (pe_mkSp Mk0 GI hr5 (by rfl) T.at_ pass0 (pa_cons pe_int pa_nil)))
      (pss_one (ps_ret (pe_call Sa.G hr4 rfl Sa.m Sa.kp Sa.b .nil pass0 (pa_cons (pe_lst (pa_cons (pe_prop (pv 15) T.cl P1.hp P1.G hr2 P1.b .nil pass0 rfl) (pa_cons (pe_prop (pv 15) T.cl P2.hp P2.G hr2 P2.b .nil pass0 rfl) (pa_cons (pe_prop (pv 15) T.cl P3.hp P3.G hr2 P3.b .nil pass0 rfl) (pa_cons (pe_prop (pv 15) T.cl P4.hp P4.G hr2 P4.b .nil pass0 rfl) (pa_cons (pe_cval (pe_glob (v := .ref C) (by rfl) T.at_ rfl)) pa_nil)))))) (pa_cons (pe_lst (pa_cons pe_int (pa_cons pe_str (pa_cons pe_str (pa_cons pe_str (pa_cons pe_int pa_nil)))))) pa_nil)))))))), ?_⟩
    refine ⟨_, rfl, a, ns, rfl, hS, hlen, fun H1 bp sm0 hbp ⟨c, hb0⟩ => ?_⟩
    refine ⟨6, rfl, by decide, by decide, ?_⟩
    refine for_range (lo := 0) (n := 6) (fun i σ H' => ∃ v2 v3 v4 v5 v6 v7 v8 v9 v10 v11 v12 v13 v14 v15 v16 v17 v18 v19 : Option V, σ = [some (.ref a), some (.ref bp), v2, v3, v4, v5, v6, v7, v8, v9, v10, v11, v12, v13, v14, v15, v16, v17, v18, v19] ∧ BagC H' bp c) ⟨none, none, none, none, none, none, none, none, none, none, none, none, none, none, none, none, none, none, rfl, hb0⟩ ?_ ?_
    · rintro i σ H2 hi ⟨v2, v3, v4, v5, v6, v7, v8, v9, v10, v11, v12, v13, v14, v15, v16, v17, v18, v19, rfl, hb2⟩
      refine ⟨_, rfl, bp, c, rfl, hb2, fun H3 d1 rs sk e st z b3 hb3 hd1 pl1 => ?_⟩
      refine ⟨_, rfl, bp, c, rfl, hb3, fun H4 d2 rs' sk' e' st' z' b4 hb4 hd2 pl2 => ?_⟩
      have pl1 := pl1.but hb3 b4
      refine ⟨by show 2 ≤ sizeLine; decide, fun t5 ht5 => ?_⟩
      have hb5 := hb4.new (o := .tup [.ref d1, .ref d2]) ht5
      have pl1 := pl1.same ((Same.refl _).new (o := .tup [.ref d1, .ref d2]) ht5)
      have pl2 := pl2.same ((Same.refl _).new (o := .tup [.ref d1, .ref d2]) ht5)
      refine ⟨t5, _, rfl, .inl (.inl upd_same), rfl, _, _, rfl, _, _, rfl, rfl, ?_⟩
      generalize upd H4 t5 (.tup [.ref d1, .ref d2]) = H5 at hb5 pl1 pl2
      refine ⟨_, rfl, d1, rs, sk, e, st, z, rfl, pl1, fun tr H6 htr6 tr6 sm6 => ?_⟩
      have tu6 : Tu K C H6 bp c d1 d2 tr rs sk e st z rs' sk' e' st' z' := ⟨hb5.same sm6, pl1.same sm6, pl2.same sm6, tr6⟩
      clear hb5 pl1 pl2 sm6 tr6
      obtain ⟨kvs, t1, hd6, _, q1, ht1, _⟩ := id tu6.p1
      refine ⟨_, rfl, d1, _, rfl, dget_some hd6 q1, t1, _, rfl, .inl (SqL.of ht1), by show 2 ≤ sizeLine; decide, fun t7 ht7 => ?_⟩
      have tu7 := tu6.new (o := .tup [.ref tr, .int ((rs.map V.int).length : Nat)]) ht7
      refine ⟨t7, _, rfl, .inl (.inl upd_same), rfl, _, _, rfl, _, _, rfl, rfl, ?_⟩
      generalize upd H6 t7 (.tup [.ref tr, .int ((rs.map V.int).length : Nat)]) = H7 at tu7
      refine ⟨2, rfl, by decide, by decide, ?_⟩
      refine for_range (lo := 0) (n := 2) (fun i σ H' => ∃ w2 w7 w8 w9 w10 w11 w12 w13 w14 w15 w16 w17 w18 w19 : Option V, σ = [some (.ref a), some (.ref bp), w2, some (.ref d1), some (.ref d2), some (.ref tr), some (.int ((rs.map V.int).length : Nat)), w7, w8, w9, w10, w11, w12, w13, w14, w15, w16, w17, w18, w19] ∧ Tu K C H' bp c d1 d2 tr rs sk e st z rs' sk' e' st' z') ⟨_, _, _, _, _, _, _, _, _, _, _, _, _, _, rfl, tu7⟩ ?_ ?_
      · rintro i2 σ H8 hi2 ⟨w2, w7, w8, w9, w10, w11, w12, w13, w14, w15, w16, w17, w18, w19, rfl, tu8⟩
        obtain ⟨dx, t, htr, ht, ok⟩ := id tu8.tr
        refine ⟨_, rfl, tr, dx, _, rfl, htr, rfl, tr, rs, sk, e, st, z, rfl, tu8.tr, fun l9 hl9 => ?_⟩
        have tu9 := tu8.new (o := .lst (rs.map V.int)) hl9
        have e9 : upd H8 l9 (.lst (rs.map V.int)) l9 = some (.lst (rs.map V.int)) := upd_same
        generalize upd H8 l9 (.lst (rs.map V.int)) = H9 at tu9 e9
        obtain ⟨dx, t, htr, ht, ok⟩ := id tu9.tr
        refine ⟨_, rfl, tr, dx, _, rfl, htr, tr, dx, _, _, rfl, htr, rfl, ?_⟩
        refine ⟨_, rfl, tr, dx, _, rfl, htr, tr, dx, _, _, rfl, htr, rfl, ?_⟩
        refine ⟨_, rfl, tr, dx, _, rfl, htr, tr, dx, _, _, rfl, htr, rfl, ?_⟩
        refine ⟨_, rfl, tr, dx, _, rfl, htr, tr, dx, _, _, rfl, htr, rfl, ?_⟩
        refine ⟨_, rfl, tr, dx, _, rfl, htr, tr, rs, sk, e, st, z, rfl, tu9.tr, ⟨_, rfl, by omega, by have := ok.n3; omega⟩, ?_⟩
        refine ⟨_, rfl, tr, dx, _, rfl, htr, tr, rs, sk, e, st, z, rfl, tu9.tr, ⟨_, rfl⟩, by show 7 ≤ sizeLine; decide, fun l10 hl10 => ?_⟩
        have sm10 : Same H9 (upd H9 l10 (.lst [.ref l9, .int sk, .str e, .str st, .str z, .int (rs.length : Nat), .str (trText rs.length)])) := (Same.refl _).new hl10
        have tu10 := tu9.same sm10
        have e10 := sm10 _ _ e9
        have f10 : upd H9 l10 (.lst [.ref l9, .int sk, .str e, .str st, .str z, .int (rs.length : Nat), .str (trText rs.length)]) l10 = some (.lst [.ref l9, .int sk, .str e, .str st, .str z, .int (rs.length : Nat), .str (trText rs.length)]) := upd_same
        show tSeq _ _ _ _ (upd H9 l10 (.lst [.ref l9, .int sk, .str e, .str st, .str z, .int (rs.length : Nat), .str (trText rs.length)]))
        generalize upd H9 l10 (.lst [.ref l9, .int sk, .str e, .str st, .str z, .int (rs.length : Nat), .str (trText rs.length)]) = H10 at tu10 e10 f10
        clear sm10
        obtain ⟨kv, tq, hd10, _, u1, htq, u2, u3, u4, u5, _⟩ := id tu10.p1
        refine ⟨by show 5 ≤ sizeLine; decide, fun l11 hl11 => ⟨l11, rfl, ⟨_, SqL.of upd_same⟩, fun D hD => ?_⟩⟩
        have sm11 : Same H10 (upd H10 l11 (.lst [.str "rooms", .str "seek", .str "empty", .str "strange", .str "pause"])) := (Same.refl _).new hl11
        refine lc_list (K := K) (a := l11) (xs := [V.str "rooms", V.str "seek", V.str "empty", V.str "strange", V.str "pause"]) (fun i H' => Same (upd H10 l11 (.lst [.str "rooms", .str "seek", .str "empty", .str "strange", .str "pause"])) H' ∧ H' D = some (.lst ([V.ref tq, .int sk, .str e, .str st, .str z].take i))) ⟨(Same.refl _).new hD, upd_same⟩ (fun i H' _ q => .inl (.inl (q.1 _ _ upd_same))) ?_ ?_
        · rintro j y H' hj ⟨sm, hD'⟩
          have hd' := sm _ _ (sm11 _ _ hd10)
          obtain ⟨v, hv, gv⟩ : ∃ v, ([V.ref tq, .int sk, .str e, .str st, .str z] : List V)[j]? = some v ∧ DGet H' d1 y (some v) := by
            match j, hj with
            | 0, hj => obtain rfl := Option.some.inj hj; exact ⟨_, rfl, dget_some hd' u1⟩
            | 1, hj => obtain rfl := Option.some.inj hj; exact ⟨_, rfl, dget_some hd' u2⟩
            | 2, hj => obtain rfl := Option.some.inj hj; exact ⟨_, rfl, dget_some hd' u3⟩
            | 3, hj => obtain rfl := Option.some.inj hj; exact ⟨_, rfl, dget_some hd' u4⟩
            | 4, hj => obtain rfl := Option.some.inj hj; exact ⟨_, rfl, dget_some hd' u5⟩
            | _ + 5, hj => cases hj
          refine ⟨rfl, _, rfl, _, rfl, d1, v, rfl, gv, _, hD', ?_, sm.own hD, ?_⟩
          · rw [List.length_take]
            exact Nat.lt_of_le_of_lt (Nat.min_le_right _ _) (show 5 < sizeLine by decide)
          · rw [upd_same, List.take_add_one, hv]
            rfl
        · rintro H12 ⟨sm, hD12⟩
          have sm12 := sm11.trans sm
          have tu12 := tu10.same sm12
          have e12 := sm12 _ _ e10
          have f12 := sm12 _ _ f10
          have t12 := sm12 _ _ htq
          have hD12 : H12 D = some (.lst [V.ref tq, .int sk, .str e, .str st, .str z]) := hD12
          clear sm sm11 sm12 tu10 e10 f10 htq
          have el : (rs.map V.int).length = rs.length := List.length_map _
          have h3 := len123 (tu12.tr.elim fun _ h => h.elim fun _ h => h.2.2)
          have et : trText rs.length = "Tracker(" ++ toString ((rs.map V.int).length : Int) ++ " rooms)" := by
            rw [el]
            rcases h3 with h | h | h <;> rw [h] <;> decide +kernel
          refine ⟨_, rfl, _, rfl, _, rfl, _, rfl, _, rfl, ?_, _, _, rfl, rfl, ?_, _, _, rfl, rfl, ?_, by show 2 ≤ sizeLine; decide, fun l13 hl13 => ?_⟩
          · rw [el]
            rcases h3 with h | h | h <;> rw [h] <;> decide +kernel
          · rw [el]
            rcases h3 with h | h | h <;> rw [h] <;> decide +kernel
          · rw [el]
            rcases h3 with h | h | h <;> rw [h] <;> decide +kernel
          rw [← et, el]
          have sm13 : Same H12 (upd H12 l13 (.lst [.int (rs.length : Nat), .str (trText rs.length)])) := (Same.refl _).new hl13
          refine ⟨D, l13, _, _, rfl, rfl, sm13 _ _ hD12, upd_same, by show 7 ≤ sizeLine; decide, fun l14 hl14 => ?_⟩
          have sm14 := sm13.new (o := .lst ([V.ref tq, .int sk, .str e, .str st, .str z] ++ [.int (rs.length : Nat), .str (trText rs.length)])) hl14
          have d14 : upd (upd H12 l13 (.lst [.int (rs.length : Nat), .str (trText rs.length)])) l14 (.lst ([V.ref tq, .int sk, .str e, .str st, .str z] ++ [.int (rs.length : Nat), .str (trText rs.length)])) l14 = some (.lst [V.ref tq, .int sk, .str e, .str st, .str z, .int (rs.length : Nat), .str (trText rs.length)]) := upd_same
          refine ⟨_, _, dFound rs sk e st z (trText rs.length), 3, rfl, .lst (SqL.of (sm14 _ _ f12)) (.cons (dp_ints (sm14 _ _ e12)) (.cons (.int _) (.cons (.str _) (.cons (.str _) (.cons (.str _) (.cons (.int _) (.cons (.str _) .nil))))))), .lst (SqL.of d14) (.cons (dp_ints (sm14 _ _ t12)) (.cons (.int _) (.cons (.str _) (.cons (.str _) (.cons (.str _) (.cons (.int _) (.cons (.str _) .nil))))))), rfl, shal_found (by omega), fun H15 sm15 => ⟨_, rfl, iteF ?_⟩⟩
          have tu15 := (tu12.same sm14).same sm15
          obtain ⟨dx, t, htr, ht, ok⟩ := id tu15.tr
          refine ⟨_, rfl, tr, dx, _, rfl, htr, rfl, tr, rs, sk, e, st, z, rfl, tu15.tr, fun l16 hl16 => ⟨.inl ⟨rfl, _, SqL.of upd_same⟩, l16, _, rfl, rfl, upd_same, _, _, _, _, _, _, _, _, _, _, _, _, _, _, rfl, ?_⟩⟩
          rw [upd_upd]
          exact tu15.new hl16
      · rintro σ H8 ⟨w2, w7, w8, w9, w10, w11, w12, w13, w14, w15, w16, w17, w18, w19, rfl, tu8⟩
        obtain ⟨dx, t, htr, ht, ok⟩ := id tu8.tr
        obtain ⟨kv, tq, hd8, _, u1, htq, u2, u3, u4, u5, _⟩ := id tu8.p1
        refine ⟨_, rfl, tr, dx, _, rfl, htr, rfl, _, rfl, d1, _, rfl, dget_some hd8 u1, tq, rfl, ⟨_, SqL.of htq⟩, fun D hD => ?_⟩
        refine lc_list (K := K) (a := tq) (xs := rs.map V.int) (fun i H' => Same H8 H' ∧ H' D = some (.lst (((turnR rs).take i).map V.int))) ⟨(Same.refl _).new hD, upd_same⟩ (fun i H' _ q => SqL.of (q.1 _ _ htq)) ?_ ?_
        · rintro j y H' hj ⟨sm, hD'⟩
          obtain ⟨u, hu2, rfl⟩ := ints_get hj
          refine ⟨rfl, _, rfl, .inl ⟨_, rfl, _, _, rfl, rfl, by show (0 : Int) < 4; decide, _, _, rfl, rfl, _, hD', ?_, sm.own hD, ?_⟩⟩
          · rw [List.length_map, List.length_take]
            have h3 := ok.n3
            exact Nat.lt_of_le_of_lt (Nat.le_trans (Nat.min_le_right _ _) (show (turnR rs).length ≤ 3 by unfold turnR; rw [List.length_map]; exact h3)) (show 3 < sizeLine by decide)
          · rw [upd_same, List.take_add_one, show (turnR rs)[j]? = some (1 + u % 4) by unfold turnR; rw [List.getElem?_map, hu2]; rfl]
            rw [List.map_append]
            rfl
        · rintro H9 ⟨sm9, hD9⟩
          have tu9 := tu8.same sm9
          have hD9 : H9 D = some (.lst ((turnR rs).map V.int)) := by
            rw [hD9, show (rs.map V.int).length = (turnR rs).length by unfold turnR; rw [List.length_map, List.length_map], List.take_length]
          refine ⟨rfl, fun p9 hp9 => ch_end (l := [("rooms", .ref D)]) tu9.tr hp9 (fun q hq => by rw [List.mem_singleton.mp hq]; show inV (.str "rooms") fieldsW = true; decide +kernel) (.inr ⟨D, hD9, fun d => fv_hit⟩) ((fv_miss (by decide +kernel)).trans fv_nil) ((fv_miss (by decide +kernel)).trans fv_nil) ((fv_miss (by decide +kernel)).trans fv_nil) ((fv_miss (by decide +kernel)).trans fv_nil) (turnR_ok ok) fun x1 H10 hx1 tr1 sm10 => ?_⟩
          have tu10 := tu9.same sm10
          clear tu8 tu9 sm9 sm10 htr hd8 htq ht
          obtain ⟨dx, t, htr, ht, _⟩ := id tu10.tr
          obtain ⟨kv, tq, hd10, _, u1, htq, u2, u3, u4, u5, _⟩ := id tu10.p1
          refine ⟨_, rfl, tr, dx, _, rfl, htr, rfl, _, rfl, d1, _, rfl, dget_some hd10 u2, _, _, rfl, rfl, .inl ⟨_, rfl, _, _, rfl, rfl, by show (0 : Int) < 4; decide, rfl, fun p11 hp11 => ?_⟩⟩
          refine ch_end (l := [("seek", .int ((sk + 1) % 4))]) tu10.tr hp11 (fun q hq => by rw [List.mem_singleton.mp hq]; show inV (.str "seek") fieldsW = true; decide +kernel) (.inl ⟨rfl, fun d => (fv_miss (by decide +kernel)).trans fv_nil⟩) fv_hit ((fv_miss (by decide +kernel)).trans fv_nil) ((fv_miss (by decide +kernel)).trans fv_nil) ((fv_miss (by decide +kernel)).trans fv_nil) ⟨ok.n1, ok.n3, ok.rr, by omega, by omega, ok.e, ok.st, ok.p⟩ fun x2 H12 hx2 tr2 sm12 => ?_
          have tu12 := tu10.same sm12
          have tr1 := tr1.same sm12
          clear tu10 sm12 htr hd10 htq ht
          obtain ⟨dx, t, htr, ht, _⟩ := id tu12.tr
          obtain ⟨kv, tq, hd12, _, u1, htq, u2, u3, u4, u5, _⟩ := id tu12.p1
          refine ⟨_, rfl, tr, dx, _, rfl, htr, rfl, _, rfl, d1, _, rfl, dget_some hd12 u3, rfl, _, rfl, rfl, fun p13 hp13 => ?_⟩
          obtain ⟨ne2, in2⟩ := flip_two (a := "blank") (b := "none") (by decide +kernel) ok.e
          generalize (if decide (V.str e = V.str "blank") = true then "none" else "blank" : Str) = e2 at ne2 in2
          refine ch_end (l := [("empty", .str e2)]) tu12.tr hp13 (fun q hq => by rw [List.mem_singleton.mp hq]; show inV (.str "empty") fieldsW = true; decide +kernel) (.inl ⟨rfl, fun d => (fv_miss (by decide +kernel)).trans fv_nil⟩) ((fv_miss (by decide +kernel)).trans fv_nil) fv_hit ((fv_miss (by decide +kernel)).trans fv_nil) ((fv_miss (by decide +kernel)).trans fv_nil) ⟨ok.n1, ok.n3, ok.rr, ok.s0, ok.s3, in2, ok.st, ok.p⟩ fun x3 H14 hx3 tr3 sm14 => ?_
          have tu14 := tu12.same sm14
          have tr1 := tr1.same sm14
          have tr2 := tr2.same sm14
          clear tu12 sm14 htr hd12 htq ht
          obtain ⟨dx, t, htr, ht, _⟩ := id tu14.tr
          obtain ⟨kv, tq, hd14, _, u1, htq, u2, u3, u4, u5, _⟩ := id tu14.p1
          refine ⟨_, rfl, tr, dx, _, rfl, htr, rfl, _, rfl, d1, _, rfl, dget_some hd14 u4, rfl, _, rfl, rfl, fun p15 hp15 => ?_⟩
          obtain ⟨ne3, in3⟩ := flip_two (a := "first") (b := "none") (by decide +kernel) ok.st
          generalize (if decide (V.str st = V.str "first") = true then "none" else "first" : Str) = st3 at ne3 in3
          refine ch_end (l := [("strange", .str st3)]) tu14.tr hp15 (fun q hq => by rw [List.mem_singleton.mp hq]; show inV (.str "strange") fieldsW = true; decide +kernel) (.inl ⟨rfl, fun d => (fv_miss (by decide +kernel)).trans fv_nil⟩) ((fv_miss (by decide +kernel)).trans fv_nil) ((fv_miss (by decide +kernel)).trans fv_nil) fv_hit ((fv_miss (by decide +kernel)).trans fv_nil) ⟨ok.n1, ok.n3, ok.rr, ok.s0, ok.s3, ok.e, in3, ok.p⟩ fun x4 H16 hx4 tr4 sm16 => ?_
          have tu16 := tu14.same sm16
          have tr1 := tr1.same sm16
          have tr2 := tr2.same sm16
          have tr3 := tr3.same sm16
          clear tu14 sm16 htr hd14 htq ht
          obtain ⟨dx, t, htr, ht, _⟩ := id tu16.tr
          obtain ⟨kv, tq, hd16, _, u1, htq, u2, u3, u4, u5, _⟩ := id tu16.p1
          refine ⟨_, rfl, tr, dx, _, rfl, htr, rfl, _, rfl, d1, _, rfl, dget_some hd16 u5, rfl, _, rfl, rfl, fun p17 hp17 => ?_⟩
          obtain ⟨ne4, in4⟩ := flip_two (a := "clear") (b := "keep") (by decide +kernel) ok.p
          generalize (if decide (V.str z = V.str "clear") = true then "keep" else "clear" : Str) = z4 at ne4 in4
          refine ch_end (l := [("pause", .str z4)]) tu16.tr hp17 (fun q hq => by rw [List.mem_singleton.mp hq]; show inV (.str "pause") fieldsW = true; decide +kernel) (.inl ⟨rfl, fun d => (fv_miss (by decide +kernel)).trans fv_nil⟩) ((fv_miss (by decide +kernel)).trans fv_nil) ((fv_miss (by decide +kernel)).trans fv_nil) ((fv_miss (by decide +kernel)).trans fv_nil) fv_hit ⟨ok.n1, ok.n3, ok.rr, ok.s0, ok.s3, ok.e, ok.st, in4⟩ fun x5 H18 hx5 tr5 sm18 => ?_
          have tu18 := tu16.same sm18
          have tr1 := tr1.same sm18
          have tr2 := tr2.same sm18
          have tr3 := tr3.same sm18
          have tr4 := tr4.same sm18
          clear tu16 sm18 htr hd16 htq ht
          refine ⟨by show 5 ≤ sizeLine; decide, fun l19 hl19 => ?_⟩
          have sm19 : Same H18 (upd H18 l19 (.lst [.ref x1, .ref x2, .ref x3, .ref x4, .ref x5])) := (Same.refl _).new hl19
          have tu19 := tu18.same sm19
          have tr1 := tr1.same sm19
          have tr2 := tr2.same sm19
          have tr3 := tr3.same sm19
          have tr4 := tr4.same sm19
          have tr5 := tr5.same sm19
          have f19 : upd H18 l19 (.lst [.ref x1, .ref x2, .ref x3, .ref x4, .ref x5]) l19 = some (.lst [.ref x1, .ref x2, .ref x3, .ref x4, .ref x5]) := upd_same
          show tSeq _ _ _ _ (upd H18 l19 (.lst [.ref x1, .ref x2, .ref x3, .ref x4, .ref x5]))
          generalize upd H18 l19 (.lst [.ref x1, .ref x2, .ref x3, .ref x4, .ref x5]) = H19 at tu19 tr1 tr2 tr3 tr4 tr5 f19
          clear sm19 tu18
          have all19 : ∀ (j : Nat) (y : V), ([V.ref x1, .ref x2, .ref x3, .ref x4, .ref x5] : List V)[j]? = some y → Other K C H19 rs sk e st z y := by
            intro j y hj
            match j, hj with
            | 0, hj => obtain rfl := Option.some.inj hj; exact other_of tr1 (.inl (turnR_ne ok))
            | 1, hj => obtain rfl := Option.some.inj hj; exact other_of tr2 (.inr (.inl (by have := ok.s0; have := ok.s3; omega)))
            | 2, hj => obtain rfl := Option.some.inj hj; exact other_of tr3 (.inr (.inr (.inl ne2)))
            | 3, hj => obtain rfl := Option.some.inj hj; exact other_of tr4 (.inr (.inr (.inr (.inl ne3))))
            | 4, hj => obtain rfl := Option.some.inj hj; exact other_of tr5 (.inr (.inr (.inr (.inr ne4))))
            | _ + 5, hj => cases hj
          refine ⟨_, rfl, l19, rfl, ⟨_, SqL.of f19⟩, fun D20 hD20 => ?_⟩
          refine lc_list (K := K) (a := l19) (xs := [V.ref x1, .ref x2, .ref x3, .ref x4, .ref x5]) (fun i H' => Same H19 H' ∧ H' D20 = some (.lst ((([false, false, false, false, false] : List Bool).take i).map V.bl))) ⟨(Same.refl _).new hD20, upd_same⟩ (fun i H' _ q => SqL.of (q.1 _ _ f19)) ?_ ?_
          · rintro j y H' hj ⟨sm, hD'⟩
            obtain ⟨x, rs2, s2, e2, st2, z2, rfl, tx, n1, n2⟩ := all19 j y hj
            have tx := tx.same sm
            have tu := tu19.same sm
            obtain ⟨dx, t, hx, ht, okx⟩ := id tx
            obtain ⟨dx', t', hx', ht', ok'⟩ := id tu.tr
            have hj5 : j < 5 := (List.getElem?_eq_some_iff.mp hj).1
            refine ⟨rfl, _, rfl, _, rfl, x, dx, _, .ref C, rfl, hx, .base (.ins hx' T.cl L.TC.ha L.TC.hn L.TC.htk L.TC.hm), L.nfC, ?_⟩
            refine ⟨x, rs2, s2, e2, st2, z2, _, rfl, tx, .inl ⟨tr, rs, sk, e, st, z, rfl, tu.tr, ⟨_, rfl⟩, false, by rw [n1], iteF ?_⟩⟩
            refine ⟨_, rfl, _, rfl, tr, dx', _, .ref C, rfl, hx', .base (.ins hx T.cl L.TC.ha L.TC.hn L.TC.htk L.TC.hm), L.nfC, ?_⟩
            refine ⟨tr, rs, sk, e, st, z, _, rfl, tu.tr, .inl ⟨x, rs2, s2, e2, st2, z2, rfl, tx, ⟨_, rfl⟩, _, hD', ?_, sm.own hD20, ?_⟩⟩
            · rw [List.length_map, List.length_take]
              exact Nat.lt_of_le_of_lt (Nat.min_le_right _ _) (show 5 < sizeLine by decide)
            · rw [upd_same, n2, List.take_add_one, show ([false, false, false, false, false] : List Bool)[j]? = some false by match j, hj5 with | 0, _ => rfl | 1, _ => rfl | 2, _ => rfl | 3, _ => rfl | 4, _ => rfl | _ + 5, h => omega]
              rw [List.map_append]
              rfl
          · rintro H21 ⟨sm21, hD21⟩
            refine ⟨D20, [false, false, false, false, false], rfl, SqL.of hD21, _, rfl, iteF ?_⟩
            have tu21 := tu19.same sm21
            clear tr1 tr2 tr3 tr4 tr5 all19 f19 sm21 hD21 tu19
            refine ⟨_, rfl, d2, rs', sk', e', st', z', rfl, tu21.p2, fun late H22 hlate trl sm22 => ?_⟩
            have tu22 := tu21.same sm22
            clear tu21 sm22
            obtain ⟨kv, tq, hd22, _, u1, htq, u2, u3, u4, u5, _⟩ := id tu22.p1
            obtain ⟨kw, tw, hw22, _, w1, htw, w2', w3, w4, w5, okw⟩ := id tu22.p2
            refine ⟨by show 5 ≤ sizeLine; decide, fun l23 hl23 => ⟨l23, rfl, ⟨_, SqL.of upd_same⟩, fun D24 hD24 => ?_⟩⟩
            have sm23 : Same H22 (upd H22 l23 (.lst [.str "rooms", .str "seek", .str "empty", .str "strange", .str "pause"])) := (Same.refl _).new hl23
            refine lc_list (K := K) (a := l23) (xs := [V.str "rooms", V.str "seek", V.str "empty", V.str "strange", V.str "pause"]) (fun i H' => Same (upd H22 l23 (.lst [.str "rooms", .str "seek", .str "empty", .str "strange", .str "pause"])) H' ∧ H' D24 = some (.lst (((nearL rs sk e st z rs' sk' e' st' z').take i).map V.bl))) ⟨(Same.refl _).new hD24, upd_same⟩ (fun i H' _ q => .inl (.inl (q.1 _ _ upd_same))) ?_ ?_
            · rintro j y H' hj ⟨sm, hD'⟩
              have sm' := sm23.trans sm
              have hd' := sm' _ _ hd22
              have hw' := sm' _ _ hw22
              obtain ⟨v, v', d, d', b, g, g', p, p', s1, s2, eb, nb⟩ : ∃ (v v' : V) (d d' : PyData) (b : Bool), DGet H' d1 y (some v) ∧ DGet H' d2 y (some v') ∧ Dp K H' v d ∧ Dp K H' v' d' ∧ SeqAt.shaped d = true ∧ SeqAt.shaped d' = true ∧ PyData.eqv d d' = b ∧ (nearL rs sk e st z rs' sk' e' st' z')[j]? = some b := by
                match j, hj with
                | 0, hj => obtain rfl := Option.some.inj hj; exact ⟨_, _, _, _, _, dget_some hd' u1, dget_some hw' w1, dp_ints (sm' _ _ htq), dp_ints (sm' _ _ htw), shaped_lst rs, shaped_lst rs', eqv_ints rs rs', rfl⟩
                | 1, hj => obtain rfl := Option.some.inj hj; exact ⟨_, _, _, _, _, dget_some hd' u2, dget_some hw' w2', .int _, .int _, rfl, rfl, rfl, rfl⟩
                | 2, hj => obtain rfl := Option.some.inj hj; exact ⟨_, _, _, _, _, dget_some hd' u3, dget_some hw' w3, .str _, .str _, shaped_two ok.e (by decide +kernel) (by decide +kernel), shaped_two okw.e (by decide +kernel) (by decide +kernel), rfl, rfl⟩
                | 3, hj => obtain rfl := Option.some.inj hj; exact ⟨_, _, _, _, _, dget_some hd' u4, dget_some hw' w4, .str _, .str _, shaped_two ok.st (by decide +kernel) (by decide +kernel), shaped_two okw.st (by decide +kernel) (by decide +kernel), rfl, rfl⟩
                | 4, hj => obtain rfl := Option.some.inj hj; exact ⟨_, _, _, _, _, dget_some hd' u5, dget_some hw' w5, .str _, .str _, shaped_two ok.p (by decide +kernel) (by decide +kernel), shaped_two okw.p (by decide +kernel) (by decide +kernel), rfl, rfl⟩
                | _ + 5, hj => cases hj
              refine ⟨rfl, _, rfl, _, rfl, d1, v, rfl, g, _, rfl, _, rfl, d2, v', rfl, g', d, d', p, p', s1, s2, _, hD', ?_, sm.own hD24, ?_⟩
              · rw [List.length_map, List.length_take]
                exact Nat.lt_of_le_of_lt (Nat.min_le_right _ _) (show 5 < sizeLine by decide)
              · rw [upd_same, eb, List.take_add_one, nb]
                rw [List.map_append]
                rfl
            · rintro H25 ⟨sm25, hD25⟩
              have tu25 := (tu22.same sm23).same sm25
              have trl := (trl.same sm23).same sm25
              have hD25 : H25 D24 = some (.lst ((nearL rs sk e st z rs' sk' e' st' z').map V.bl)) := hD25
              clear tu22 sm23 sm25 hd22 hw22 htq htw
              refine ⟨_, rfl, _, rfl, d1, rs, sk, e, st, z, rfl, tu25.p1, fun x7 H26 hx7 tr7 sm26 => ?_⟩
              have tu26 := tu25.same sm26
              have trl := trl.same sm26
              have hD26 := sm26 _ _ hD25
              clear tu25 sm26 hD25
              obtain ⟨dx, t, htr, ht, _⟩ := id tu26.tr
              obtain ⟨dx7, t7', htr7, ht7', _⟩ := id tr7
              obtain ⟨dxl, tl, htrl, htl, _⟩ := id trl
              obtain ⟨kv, tq, hd26, _, u1, htq, u2, u3, u4, u5, _⟩ := id tu26.p1
              refine ⟨tr, dx, _, .ref C, rfl, htr, .base (.ins htr7 T.cl L.TC.ha L.TC.hn L.TC.htk L.TC.hm), L.nfC, tr, rs, sk, e, st, z, _, rfl, tu26.tr, .inl ⟨x7, rs, sk, e, st, z, rfl, tr7, ⟨_, rfl⟩, ?_⟩⟩
              refine ⟨_, rfl, _, rfl, tr, dx, _, .ref C, rfl, htr, .base (.ins htrl T.cl L.TC.ha L.TC.hn L.TC.htk L.TC.hm), L.nfC, tr, rs, sk, e, st, z, _, rfl, tu26.tr, .inl ⟨late, rs', sk', e', st', z', rfl, trl, ⟨_, rfl⟩, ?_⟩⟩
              refine ⟨_, rfl, _, rfl, d1, _, rfl, dget_some hd26 u1, tr, dx, _, .type "list", rfl, htr, .base (.lst htq), L.nfL, tr, rs, sk, e, st, z, _, rfl, tu26.tr, .inr ⟨.type "list", .base (.lst htq), L.koL, ⟨_, rfl⟩, ?_⟩⟩
              refine ⟨by show 3 ≤ sizeLine; decide, fun l27 hl27 => ?_⟩
              rw [eqT_refl]
              have sm27 : Same H26 (upd H26 l27 (.lst [.bl true, .bl (eqT rs sk e st z rs' sk' e' st' z'), .bl false])) := (Same.refl _).new hl27
              have tu27 := tu26.same sm27
              have hD27 := sm27 _ _ hD26
              have f27 : upd H26 l27 (.lst [.bl true, .bl (eqT rs sk e st z rs' sk' e' st' z'), .bl false]) l27 = some (.lst [.bl true, .bl (eqT rs sk e st z rs' sk' e' st' z'), .bl false]) := upd_same
              show tSeq _ _ _ _ (upd H26 l27 (.lst [.bl true, .bl (eqT rs sk e st z rs' sk' e' st' z'), .bl false]))
              generalize upd H26 l27 (.lst [.bl true, .bl (eqT rs sk e st z rs' sk' e' st' z'), .bl false]) = H27 at tu27 hD27 f27
              clear sm27 tu26 trl hD26 htr htr7 htrl hd26 htq tr7 ht ht7' htl
              refine ⟨_, rfl, _, rfl, by show 1 ≤ sizeLine; decide, fun l28 hl28 => ⟨l28, 5, _, rfl, rfl, upd_same, by decide, by decide, by show 5 ≤ sizeLine; decide, fun l29 hl29 => ?_⟩⟩
              have sm29 := ((Same.refl H27).new (o := .lst [V.bl true]) hl28).new (o := .lst (List.replicate (5 : Int).toNat [V.bl true]).flatten) hl29
              have f29 : upd (upd H27 l28 (.lst [V.bl true])) l29 (.lst (List.replicate (5 : Int).toNat [V.bl true]).flatten) l29 = some (.lst [V.bl true, .bl true, .bl true, .bl true, .bl true]) := upd_same
              refine ⟨.list ((nearL rs sk e st z rs' sk' e' st' z').map PyData.bool), .list [.bool true, .bool true, .bool true, .bool true, .bool true], .lst (SqL.of (sm29 _ _ hD27)) (dpAll_bls _), .lst (SqL.of f29) (dpAll_bls [true, true, true, true, true]), rfl, rfl, ?_⟩
              rw [near_eq]
              refine ⟨by show 3 ≤ sizeLine; decide, fun l30 hl30 => ?_⟩
              have sm30 := sm29.new (o := .lst [.bl true, .bl (eqT rs sk e st z rs' sk' e' st' z'), .bl false]) hl30
              refine ⟨_, _, .list ([true, eqT rs sk e st z rs' sk' e' st' z', false].map PyData.bool), 3, rfl, .lst (SqL.of (sm30 _ _ f27)) (dpAll_bls [true, eqT rs sk e st z rs' sk' e' st' z', false]), .lst (SqL.of upd_same) (dpAll_bls [true, eqT rs sk e st z rs' sk' e' st' z', false]), rfl, shal_bls (by show 3 ≤ 1000; decide), fun H31 sm31 => ⟨_, rfl, iteF ?_⟩⟩
              have tu31 := (tu27.same sm30).same sm31
              clear tu27 sm30 sm31 sm29 f27 f29 hD27
              obtain ⟨dx, t, htr, ht, _⟩ := id tu31.tr
              refine ⟨_, rfl, tr, dx, _, rfl, htr, rfl, rfl, fun p32 hp32 => ch_end (l := []) tu31.tr hp32 (fun q hq => nomatch hq) (.inl ⟨rfl, fun d => fv_nil⟩) fv_nil fv_nil fv_nil fv_nil ok fun y1 H33 hy1 ty1 sm33 => ?_⟩
              have tu33 := tu31.same sm33
              clear tu31 sm33 htr ht
              obtain ⟨dx, t, htr, ht, _⟩ := id tu33.tr
              obtain ⟨kw, tw, hw33, _, w1, htw, w2', w3, w4, w5, okw⟩ := id tu33.p2
              refine ⟨_, rfl, tr, dx, _, rfl, htr, rfl, _, rfl, d2, _, rfl, dget_some hw33 w1, _, rfl, d2, _, rfl, dget_some hw33 w2', rfl, fun p34 hp34 => ch_end (l := [("rooms", .ref tw), ("seek", .int sk')]) tu33.tr hp34 (keys_two (by decide +kernel) (by decide +kernel)) (.inr ⟨tw, htw, fun d => fv_hit⟩) ((fv_miss (by decide +kernel)).trans fv_hit) ((fv_miss (by decide +kernel)).trans ((fv_miss (by decide +kernel)).trans fv_nil)) ((fv_miss (by decide +kernel)).trans ((fv_miss (by decide +kernel)).trans fv_nil)) ((fv_miss (by decide +kernel)).trans ((fv_miss (by decide +kernel)).trans fv_nil)) ⟨okw.n1, okw.n3, okw.rr, okw.s0, okw.s3, ok.e, ok.st, ok.p⟩ fun y2 H35 hy2 ty2 sm35 => ?_⟩
              have tu35 := tu33.same sm35
              have ty1 := ty1.same sm35
              clear tu33 sm35 htr ht hw33 htw
              obtain ⟨dx, t, htr, ht, _⟩ := id tu35.tr
              obtain ⟨kw, tw, hw35, _, w1, htw, w2', w3, w4, w5, _⟩ := id tu35.p2
              refine ⟨_, rfl, tr, dx, _, rfl, htr, rfl, _, rfl, d2, _, rfl, dget_some hw35 w5, rfl, fun p36 hp36 => ch_end (l := [("pause", .str z')]) tu35.tr hp36 (fun q hq => by rw [List.mem_singleton.mp hq]; show inV (.str "pause") fieldsW = true; decide +kernel) (.inl ⟨rfl, fun d => (fv_miss (by decide +kernel)).trans fv_nil⟩) ((fv_miss (by decide +kernel)).trans fv_nil) ((fv_miss (by decide +kernel)).trans fv_nil) ((fv_miss (by decide +kernel)).trans fv_nil) fv_hit ⟨ok.n1, ok.n3, ok.rr, ok.s0, ok.s3, ok.e, ok.st, okw.p⟩ fun y3 H37 hy3 ty3 sm37 => ?_⟩
              have tu37 := tu35.same sm37
              have ty1 := ty1.same sm37
              have ty2 := ty2.same sm37
              clear tu35 sm37 htr ht hw35 htw
              obtain ⟨dx, t, htr, ht, _⟩ := id tu37.tr
              obtain ⟨kw, tw, hw37, _, w1, htw, w2', w3, w4, w5, _⟩ := id tu37.p2
              refine ⟨_, rfl, tr, dx, _, rfl, htr, rfl, _, rfl, d2, _, rfl, dget_some hw37 w4, _, rfl, d2, _, rfl, dget_some hw37 w3, rfl, fun p38 hp38 => ch_end (l := [("strange", .str st'), ("empty", .str e')]) tu37.tr hp38 (keys_two (by decide +kernel) (by decide +kernel)) (.inl ⟨rfl, fun d => (fv_miss (by decide +kernel)).trans ((fv_miss (by decide +kernel)).trans fv_nil)⟩) ((fv_miss (by decide +kernel)).trans ((fv_miss (by decide +kernel)).trans fv_nil)) ((fv_miss (by decide +kernel)).trans fv_hit) fv_hit ((fv_miss (by decide +kernel)).trans ((fv_miss (by decide +kernel)).trans fv_nil)) ⟨ok.n1, ok.n3, ok.rr, ok.s0, ok.s3, okw.e, okw.st, ok.p⟩ fun y4 H39 hy4 ty4 sm39 => ?_⟩
              have tu39 := tu37.same sm39
              have ty1 := ty1.same sm39
              have ty2 := ty2.same sm39
              have ty3 := ty3.same sm39
              clear tu37 sm39 htr ht hw37 htw
              refine ⟨by show 4 ≤ sizeLine; decide, fun l40 hl40 => ?_⟩
              have sm40 : Same H39 (upd H39 l40 (.lst [.ref y1, .ref y2, .ref y3, .ref y4])) := (Same.refl _).new hl40
              have tu40 := tu39.same sm40
              have ty1 := ty1.same sm40
              have ty2 := ty2.same sm40
              have ty3 := ty3.same sm40
              have ty4 := ty4.same sm40
              have f40 : upd H39 l40 (.lst [.ref y1, .ref y2, .ref y3, .ref y4]) l40 = some (.lst [.ref y1, .ref y2, .ref y3, .ref y4]) := upd_same
              show tSeq _ _ _ _ (upd H39 l40 (.lst [.ref y1, .ref y2, .ref y3, .ref y4]))
              generalize upd H39 l40 (.lst [.ref y1, .ref y2, .ref y3, .ref y4]) = H40 at tu40 ty1 ty2 ty3 ty4 f40
              clear sm40 tu39
              obtain ⟨kv, tq, hd40, ln40, u1, htq, u2, u3, u4, u5, _⟩ := id tu40.p1
              obtain ⟨kw, tw, hw40, _, w1, htw, w2', w3, w4, w5, _⟩ := id tu40.p2
              refine ⟨_, rfl, _, rfl, d1, kv, rfl, .inl hd40, fun r1 hr1 => ?_⟩
              have smA : Same H40 (upd H40 r1 (.dK kv)) := (Same.refl _).new hr1
              refine ⟨_, rfl, d1, kv, rfl, .inl (smA _ _ hd40), fun r2 hr2 => ?_⟩
              have smB := smA.new (o := .dK kv) hr2
              refine ⟨_, rfl, d1, kv, rfl, .inl (smB _ _ hd40), fun r3 hr3 => ?_⟩
              have smC := smB.new (o := .dK kv) hr3
              refine ⟨by show 4 ≤ sizeLine; decide, fun l44 hl44 => ?_⟩
              have smD := smC.new (o := .lst [.ref d1, .ref r1, .ref r2, .ref r3]) hl44
              have n1 := smA.free hr2
              have n2 := smB.free hr3
              have n3 := smC.free hl44
              have m1 := (((Same.refl (upd H40 r1 (.dK kv))).new (o := .dK kv) hr2).new (o := .dK kv) hr3).new (o := .lst [.ref d1, .ref r1, .ref r2, .ref r3]) hl44 _ _ upd_same
              have m2 := ((Same.refl (upd (upd H40 r1 (.dK kv)) r2 (.dK kv))).new (o := .dK kv) hr3).new (o := .lst [.ref d1, .ref r1, .ref r2, .ref r3]) hl44 _ _ upd_same
              have m3 := ((Same.refl (upd (upd (upd H40 r1 (.dK kv)) r2 (.dK kv)) r3 (.dK kv))).new (o := .lst [.ref d1, .ref r1, .ref r2, .ref r3]) hl44) _ _ upd_same
              have m4 : upd (upd (upd (upd H40 r1 (.dK kv)) r2 (.dK kv)) r3 (.dK kv)) l44 (.lst [.ref d1, .ref r1, .ref r2, .ref r3]) l44 = some (.lst [.ref d1, .ref r1, .ref r2, .ref r3]) := upd_same
              have d12 : r1 ≠ r2 := ne_of_none (upd_same (H := H40) (a := r1) (o := .dK kv)) hr2
              have d13 : r1 ≠ r3 := ne_of_none (((Same.refl (upd H40 r1 (.dK kv))).new (o := .dK kv) hr2) _ _ upd_same) hr3
              have d23 : r2 ≠ r3 := ne_of_none (upd_same (H := upd H40 r1 (.dK kv)) (a := r2) (o := .dK kv)) hr3
              show tSeq _ _ _ _ (upd (upd (upd (upd H40 r1 (.dK kv)) r2 (.dK kv)) r3 (.dK kv)) l44 (.lst [.ref d1, .ref r1, .ref r2, .ref r3]))
              generalize upd (upd (upd (upd H40 r1 (.dK kv)) r2 (.dK kv)) r3 (.dK kv)) l44 (.lst [.ref d1, .ref r1, .ref r2, .ref r3]) = H44 at smD m1 m2 m3 m4
              clear smA smB smC hr2 hr3 hl44
              have hl15 : kv.length < sizeLine := Nat.lt_of_le_of_lt ln40 (by decide)
              have hl16 : ∀ (k : Key) (v : V), (putK kv k v).length < sizeLine := fun k v => Nat.lt_of_le_of_lt (Nat.le_trans (length_putK kv k v) (Nat.succ_le_succ ln40)) (show 16 < sizeLine by decide)
              refine ⟨_, rfl, d2, _, rfl, dget_some (smD _ _ hw40) w1, _, rfl, d2, _, rfl, dget_some (smD _ _ hw40) w2', by show 2 ≤ sizeLine; decide, fun t45 ht45 => ?_⟩
              have sm45 : Same H44 (upd H44 t45 (.tup [.ref tw, .int sk'])) := (Same.refl _).new ht45
              have smE := smD.trans sm45
              have q1 := sm45 _ _ m1
              have q2 := sm45 _ _ m2
              have q3 := sm45 _ _ m3
              have q4 := sm45 _ _ m4
              have nl1 : l44 ≠ r1 := ne_of q4 q1 (fun z => nomatch z)
              have q5 : upd (upd H44 t45 (.tup [.ref tw, .int sk'])) r1 (.dK (putK kv (Sum.inr "rooms") (.ref tw))) l44 = some (.lst [.ref d1, .ref r1, .ref r2, .ref r3]) := by rw [upd_ne nl1]; exact q4
              refine ⟨t45, _, rfl, .inl (.inl upd_same), rfl, _, _, rfl, _, rfl, l44, _, _, _, rfl, rfl, SqL.of q4, rfl, r1, _, rfl, DPut.k (k := Sum.inr "rooms") q1 hl15, ?_⟩
              refine ⟨_, _, rfl, _, rfl, l44, _, _, _, rfl, rfl, SqL.of q5, rfl, r1, _, rfl, DPut.k (k := Sum.inr "seek") upd_same (hl16 _ _), rfl, ?_⟩
              have smF := (smE.own (o := .dK (putK kv (Sum.inr "rooms") (.ref tw))) hr1).own (o := .dK (putK (putK kv (Sum.inr "rooms") (.ref tw)) (Sum.inr "seek") (.int sk'))) hr1
              have g1 : upd (upd (upd H44 t45 (.tup [.ref tw, .int sk'])) r1 (.dK (putK kv (Sum.inr "rooms") (.ref tw)))) r1 (.dK (putK (putK kv (Sum.inr "rooms") (.ref tw)) (Sum.inr "seek") (.int sk'))) r1 = some (.dK (putK (putK kv (Sum.inr "rooms") (.ref tw)) (Sum.inr "seek") (.int sk'))) := upd_same
              have g2 : upd (upd (upd H44 t45 (.tup [.ref tw, .int sk'])) r1 (.dK (putK kv (Sum.inr "rooms") (.ref tw)))) r1 (.dK (putK (putK kv (Sum.inr "rooms") (.ref tw)) (Sum.inr "seek") (.int sk'))) r2 = some (.dK kv) := by rw [upd_ne d12.symm, upd_ne d12.symm]; exact q2
              have g3 : upd (upd (upd H44 t45 (.tup [.ref tw, .int sk'])) r1 (.dK (putK kv (Sum.inr "rooms") (.ref tw)))) r1 (.dK (putK (putK kv (Sum.inr "rooms") (.ref tw)) (Sum.inr "seek") (.int sk'))) r3 = some (.dK kv) := by rw [upd_ne d13.symm, upd_ne d13.symm]; exact q3
              have g4 : upd (upd (upd H44 t45 (.tup [.ref tw, .int sk'])) r1 (.dK (putK kv (Sum.inr "rooms") (.ref tw)))) r1 (.dK (putK (putK kv (Sum.inr "rooms") (.ref tw)) (Sum.inr "seek") (.int sk'))) l44 = some (.lst [.ref d1, .ref r1, .ref r2, .ref r3]) := by rw [upd_ne nl1, upd_ne nl1]; exact q4
              show tSeq _ _ _ _ (upd (upd (upd H44 t45 (.tup [.ref tw, .int sk'])) r1 (.dK (putK kv (Sum.inr "rooms") (.ref tw)))) r1 (.dK (putK (putK kv (Sum.inr "rooms") (.ref tw)) (Sum.inr "seek") (.int sk'))))
              generalize upd (upd (upd H44 t45 (.tup [.ref tw, .int sk'])) r1 (.dK (putK kv (Sum.inr "rooms") (.ref tw)))) r1 (.dK (putK (putK kv (Sum.inr "rooms") (.ref tw)) (Sum.inr "seek") (.int sk'))) = H46 at smF g1 g2 g3 g4
              clear smD smE q1 q2 q3 q4 q5 m1 m2 m3 m4 sm45 ht45
              refine ⟨_, rfl, d2, _, rfl, dget_some (smF _ _ hw40) w5, _, rfl, l44, _, _, _, rfl, rfl, SqL.of g4, rfl, r2, _, rfl, DPut.k (k := Sum.inr "pause") g2 hl15, ?_⟩
              have smG := smF.own (o := .dK (putK kv (Sum.inr "pause") (.str z'))) n1
              have nl2 : l44 ≠ r2 := ne_of g4 g2 (fun z => nomatch z)
              have h1 : upd H46 r2 (.dK (putK kv (Sum.inr "pause") (.str z'))) r1 = some (.dK (putK (putK kv (Sum.inr "rooms") (.ref tw)) (Sum.inr "seek") (.int sk'))) := by rw [upd_ne d12]; exact g1
              have h2 : upd H46 r2 (.dK (putK kv (Sum.inr "pause") (.str z'))) r2 = some (.dK (putK kv (Sum.inr "pause") (.str z'))) := upd_same
              have h3 : upd H46 r2 (.dK (putK kv (Sum.inr "pause") (.str z'))) r3 = some (.dK kv) := by rw [upd_ne d23.symm]; exact g3
              have h4 : upd H46 r2 (.dK (putK kv (Sum.inr "pause") (.str z'))) l44 = some (.lst [.ref d1, .ref r1, .ref r2, .ref r3]) := by rw [upd_ne nl2]; exact g4
              show tSeq _ _ _ _ (upd H46 r2 (.dK (putK kv (Sum.inr "pause") (.str z'))))
              generalize upd H46 r2 (.dK (putK kv (Sum.inr "pause") (.str z'))) = H47 at smG h1 h2 h3 h4
              clear smF g1 g2 g3 g4
              refine ⟨_, rfl, d2, _, rfl, dget_some (smG _ _ hw40) w4, _, rfl, d2, _, rfl, dget_some (smG _ _ hw40) w3, by show 2 ≤ sizeLine; decide, fun t48 ht48 => ?_⟩
              have sm48 : Same H47 (upd H47 t48 (.tup [.str st', .str e'])) := (Same.refl _).new ht48
              have smH := smG.trans sm48
              have q1 := sm48 _ _ h1
              have q2 := sm48 _ _ h2
              have q3 := sm48 _ _ h3
              have q4 := sm48 _ _ h4
              have nl3 : l44 ≠ r3 := ne_of q4 q3 (fun z => nomatch z)
              have q5 : upd (upd H47 t48 (.tup [.str st', .str e'])) r3 (.dK (putK kv (Sum.inr "strange") (.str st'))) l44 = some (.lst [.ref d1, .ref r1, .ref r2, .ref r3]) := by rw [upd_ne nl3]; exact q4
              refine ⟨t48, _, rfl, .inl (.inl upd_same), rfl, _, _, rfl, _, rfl, l44, _, _, _, rfl, rfl, SqL.of q4, rfl, r3, _, rfl, DPut.k (k := Sum.inr "strange") q3 hl15, ?_⟩
              refine ⟨_, _, rfl, _, rfl, l44, _, _, _, rfl, rfl, SqL.of q5, rfl, r3, _, rfl, DPut.k (k := Sum.inr "empty") upd_same (hl16 _ _), rfl, ?_⟩
              have smI := (smH.own (o := .dK (putK kv (Sum.inr "strange") (.str st'))) n2).own (o := .dK (putK (putK kv (Sum.inr "strange") (.str st')) (Sum.inr "empty") (.str e'))) n2
              have g1 : upd (upd (upd H47 t48 (.tup [.str st', .str e'])) r3 (.dK (putK kv (Sum.inr "strange") (.str st')))) r3 (.dK (putK (putK kv (Sum.inr "strange") (.str st')) (Sum.inr "empty") (.str e'))) r1 = some (.dK (putK (putK kv (Sum.inr "rooms") (.ref tw)) (Sum.inr "seek") (.int sk'))) := by rw [upd_ne d13, upd_ne d13]; exact q1
              have g2 : upd (upd (upd H47 t48 (.tup [.str st', .str e'])) r3 (.dK (putK kv (Sum.inr "strange") (.str st')))) r3 (.dK (putK (putK kv (Sum.inr "strange") (.str st')) (Sum.inr "empty") (.str e'))) r2 = some (.dK (putK kv (Sum.inr "pause") (.str z'))) := by rw [upd_ne d23, upd_ne d23]; exact q2
              have g3 : upd (upd (upd H47 t48 (.tup [.str st', .str e'])) r3 (.dK (putK kv (Sum.inr "strange") (.str st')))) r3 (.dK (putK (putK kv (Sum.inr "strange") (.str st')) (Sum.inr "empty") (.str e'))) r3 = some (.dK (putK (putK kv (Sum.inr "strange") (.str st')) (Sum.inr "empty") (.str e'))) := upd_same
              have g4 : upd (upd (upd H47 t48 (.tup [.str st', .str e'])) r3 (.dK (putK kv (Sum.inr "strange") (.str st')))) r3 (.dK (putK (putK kv (Sum.inr "strange") (.str st')) (Sum.inr "empty") (.str e'))) l44 = some (.lst [.ref d1, .ref r1, .ref r2, .ref r3]) := by rw [upd_ne nl3, upd_ne nl3]; exact q4
              show tSeq _ _ _ _ (upd (upd (upd H47 t48 (.tup [.str st', .str e'])) r3 (.dK (putK kv (Sum.inr "strange") (.str st')))) r3 (.dK (putK (putK kv (Sum.inr "strange") (.str st')) (Sum.inr "empty") (.str e'))))
              generalize upd (upd (upd H47 t48 (.tup [.str st', .str e'])) r3 (.dK (putK kv (Sum.inr "strange") (.str st')))) r3 (.dK (putK (putK kv (Sum.inr "strange") (.str st')) (Sum.inr "empty") (.str e'))) = H50 at smI g1 g2 g3 g4
              clear smG smH q1 q2 q3 q4 q5 h1 h2 h3 h4 sm48 ht48
              have tu50 := tu40.same smI
              have ty1 := ty1.same smI
              have ty2 := ty2.same smI
              have ty3 := ty3.same smI
              have ty4 := ty4.same smI
              have f50 := smI _ _ f40
              have htq := smI _ _ htq
              have htw := smI _ _ htw
              obtain ⟨_, _, _, _, _, _, _, _, _, _, okw⟩ := id tu50.p2
              have M : ∀ (j : Nat) (x row : V), ([V.ref y1, .ref y2, .ref y3, .ref y4] : List V)[j]? = some x → ([V.ref d1, .ref r1, .ref r2, .ref r3] : List V)[j]? = some row → MatchR K C H50 x row := by
                intro j x row hx hy
                match j, hx, hy with
                | 0, hx, hy => obtain rfl := Option.some.inj hx; obtain rfl := Option.some.inj hy; exact ⟨_, _, _, _, _, _, _, rfl, rfl, ty1, tu50.p1⟩
                | 1, hx, hy => obtain rfl := Option.some.inj hx; obtain rfl := Option.some.inj hy; exact ⟨_, _, _, _, _, _, _, rfl, rfl, ty2, plan_rs g1 htw ln40 u1 u2 u3 u4 u5 ⟨okw.n1, okw.n3, okw.rr, okw.s0, okw.s3, ok.e, ok.st, ok.p⟩⟩
                | 2, hx, hy => obtain rfl := Option.some.inj hx; obtain rfl := Option.some.inj hy; exact ⟨_, _, _, _, _, _, _, rfl, rfl, ty3, plan_z g2 htq ln40 u1 u2 u3 u4 u5 ⟨ok.n1, ok.n3, ok.rr, ok.s0, ok.s3, ok.e, ok.st, okw.p⟩⟩
                | 3, hx, hy => obtain rfl := Option.some.inj hx; obtain rfl := Option.some.inj hy; exact ⟨_, _, _, _, _, _, _, rfl, rfl, ty4, plan_se g3 htq ln40 u1 u2 u3 u4 u5 ⟨ok.n1, ok.n3, ok.rr, ok.s0, ok.s3, okw.e, okw.st, ok.p⟩⟩
                | _ + 4, hx, hy => cases hx
              clear ty1 ty2 ty3 ty4 g1 g2 g3 tu40 smI
              have h1 : SqL K H50 l40 [.ref y1, .ref y2, .ref y3, .ref y4] := SqL.of f50
              have h3 : SqL K H50 l44 [.ref d1, .ref r1, .ref r2, .ref r3] := SqL.of g4
              refine ⟨_, rfl, _, rfl, l40, l44, _, _, rfl, .inl ⟨h1, h3, fun D hD => lc_any (n := 4) (fun i H' => Same H50 H' ∧ H' D = some (.lst ((List.replicate i true).map V.bl))) ⟨(Same.refl _).new hD, upd_same⟩ ?_ ?_⟩⟩
              · intro i H' hix q
                refine ⟨(go_zipL (xs := [.ref y1, .ref y2, .ref y3, .ref y4]) (ys := [.ref d1, .ref r1, .ref r2, .ref r3]) rfl hix ((q.1).seq h1) ((q.1).seq h3)).1, fun v Hv yv => ?_⟩
                obtain ⟨T', x, y, rfl, hT, rfl, hx, hy⟩ := (go_zipL (xs := [.ref y1, .ref y2, .ref y3, .ref y4]) (ys := [.ref d1, .ref r1, .ref r2, .ref r3]) rfl hix ((q.1).seq h1) ((q.1).seq h3)).2 v Hv yv
                have nD : D ≠ T' := ne_of_none q.2 hT
                refine ⟨T', _, rfl, .inl (.inl upd_same), rfl, x, [y], rfl, y, [], rfl, rfl, rfl, ?_⟩
                have sT : Same H' (upd H' T' (.tup [x, y])) := (Same.refl _).new hT
                obtain ⟨a', d', rs0, s0, e0, st0, z0, rfl, rfl, tt, pp⟩ := (M i x y hx hy).same (q.1.trans sT)
                refine ⟨_, rfl, _, rfl, d', rs0, s0, e0, st0, z0, rfl, pp, fun x7 H7 hx7 tr7 sm7 => ?_⟩
                have tt7 := tt.same sm7
                obtain ⟨dx', _, htr', _⟩ := id tt7
                obtain ⟨dx7, t7', htr7, ht7', _⟩ := id tr7
                have q7 := (q.1.trans sT).trans sm7
                have hD7 := sm7 _ _ (sT _ _ q.2)
                refine ⟨a', dx', _, .ref C, rfl, htr', .base (.ins htr7 T.cl L.TC.ha L.TC.hn L.TC.htk L.TC.hm), L.nfC, a', rs0, s0, e0, st0, z0, _, rfl, tt7, .inl ⟨x7, rs0, s0, e0, st0, z0, rfl, tr7, ⟨_, rfl⟩, ?_⟩⟩
                refine ⟨_, hD7, ?_, q7.own hD, ?_⟩
                · rw [List.length_map, List.length_replicate]
                  exact Nat.lt_trans hix (by decide)
                · rw [upd_same, eqT_refl, List.replicate_succ', List.map_append]
                  rfl
              · intro H' q
                refine ⟨⟨_, _, (q.1).seq h1, (q.1).seq h3, .inl (Nat.le_refl _)⟩, ?_⟩
                refine ⟨by show 1 ≤ sizeLine; decide, fun l51 hl51 => ⟨l51, 4, _, rfl, rfl, upd_same, by decide, by decide, by show 4 ≤ sizeLine; decide, fun l52 hl52 => ?_⟩⟩
                have sm52 := ((Same.refl H').new (o := .lst [V.bl true]) hl51).new (o := .lst (List.replicate (4 : Int).toNat [V.bl true]).flatten) hl52
                have f52 : upd (upd H' l51 (.lst [V.bl true])) l52 (.lst (List.replicate (4 : Int).toNat [V.bl true]).flatten) l52 = some (.lst [V.bl true, .bl true, .bl true, .bl true]) := upd_same
                refine ⟨_, _, .list ([true, true, true, true].map PyData.bool), 3, rfl, .lst (SqL.of (sm52 _ _ q.2)) (dpAll_bls [true, true, true, true]), .lst (SqL.of f52) (dpAll_bls [true, true, true, true]), rfl, shal_bls (by show 4 ≤ 1000; decide), fun H53 sm53 => ⟨_, rfl, iteF ?_⟩⟩
                exact ⟨_, _, _, _, _, _, _, _, _, _, _, _, _, _, _, _, _, _, rfl, (tu50.same ((q.1.trans sm52).trans sm53)).bag⟩
    · rintro σ H2 ⟨v2, v3, v4, v5, v6, v7, v8, v9, v10, v11, v12, v13, v14, v15, v16, v17, v18, v19, rfl, hb2⟩
      obtain ⟨mc, tk, cr, cvv⟩ := T.most
      dsimp only [tSeq, tAsg, tCons, tNil, tC]
      refine made_end (gV := fun _ => [V.int 0, .str "none", .str "first", .str "clear"]) (rs := [2]) (s := 0) (e := "none") (st := "first") (z := "clear") rfl rfl ⟨by decide, by decide, fun r hr => by obtain rfl := List.mem_singleton.mp hr; decide, by decide, by decide, by decide +kernel, by decide +kernel, by decide +kernel⟩ fun x H3 hx tx sm3 => ?_
      obtain ⟨dx, t, htr, _⟩ := id tx
      refine ⟨_, rfl, x, dx, _, rfl, htr, x, dx, _, _, rfl, htr, rfl, ?_⟩
      refine ⟨_, rfl, x, dx, _, rfl, htr, x, dx, _, _, rfl, htr, rfl, ?_⟩
      refine ⟨_, rfl, x, dx, _, rfl, htr, x, dx, _, _, rfl, htr, rfl, ?_⟩
      refine ⟨_, rfl, x, dx, _, rfl, htr, x, dx, _, _, rfl, htr, rfl, ?_⟩
      refine ⟨C, mc, _, _, rfl, cr, cvv, by show 5 ≤ sizeLine; decide, fun l4 hl4 => ?_⟩
      refine ⟨by show 5 ≤ sizeLine; decide, fun l5 hl5 => ?_⟩
      have sm5 : Same (upd H3 l4 (.lst [.int 0, .str "none", .str "first", .str "clear", .int 4])) (upd (upd H3 l4 (.lst [.int 0, .str "none", .str "first", .str "clear", .int 4])) l5 (.lst [.int 0, .str "none", .str "first", .str "clear", .int 4])) := (Same.refl _).new hl5
      have dp : ∀ H', DpAll K H' [.int 0, .str "none", .str "first", .str "clear", .int 4] [.int 0, .str "none", .str "first", .str "clear", .int 4] := fun H' => .cons (.int _) (.cons (.str _) (.cons (.str _) (.cons (.str _) (.cons (.int _) .nil))))
      refine ⟨_, _, .list [.int 0, .str "none", .str "first", .str "clear", .int 4], 3, rfl, .lst (SqL.of (sm5 _ _ upd_same)) (dp _), .lst (SqL.of upd_same) (dp _), rfl, .lst (fun d hd => ?_) (by show 5 ≤ 1000; decide), fun H6 sm6 => k _⟩
      simp only [List.mem_cons, List.not_mem_nil, or_false] at hd
      rcases hd with rfl | rfl | rfl | rfl | rfl
      · exact .int _
      · exact .str _
      · exact .str _
      · exact .str _
      · exact .int _
end
end Own

namespace Own
open PySem L2 ClX
structure BasF (K : PySem.W.Frag) (C : Addr) : Prop where
  tyC : PySem.W.typeIn K (.ref C) = some (.type "type")
  hd : PySem.W.hasDictIn K C = true
  se : PySem.W.subIn K (.ref C) (.ref C) = some true
theorem kit_own {K : PySem.W.Frag} {C D : Addr} {b : Bool} (B : BasF K D) (hs : PySem.W.subIn K (.ref C) (.ref D) = some b) : PySem.W.kitOne K (.ref C) (.ref D) = some b := by
  unfold PySem.W.kitOne
  by_cases e : (Value.ref C == Value.ref D) = true
  · obtain rfl : C = D := by
      have z := eq_of_beq e
      injection z
    rw [if_pos e, ← hs]
    exact B.se.symm
  · rw [if_neg e]
    obtain ⟨cd, hc, _⟩ := PySem.W.any_some B.hd
    have q : ((PySem.W.clsIn K D).isSome && PySem.W.typeIn K (.ref D) == some (.type "type")) = true := by
      rw [hc, B.tyC]; rfl
    show (if ((PySem.W.clsIn K D).isSome && PySem.W.typeIn K (.ref D) == some (.type "type")) = true then PySem.W.subIn K (.ref C) (.ref D) else none) = some b
    rw [if_pos q]
    exact hs
theorem kit_to {K : PySem.W.Frag} {D : Addr} {t : Value} {b : Bool} (B : BasF K D) (hn : (t == Value.ref D) = false) (hs : PySem.W.subIn K t (.ref D) = some b) : PySem.W.kitOne K t (.ref D) = some b := by
  unfold PySem.W.kitOne
  rw [if_neg (by rw [hn]; exact Bool.false_ne_true)]
  obtain ⟨cd, hc, _⟩ := PySem.W.any_some B.hd
  have q : ((PySem.W.clsIn K D).isSome && PySem.W.typeIn K (.ref D) == some (.type "type")) = true := by
    rw [hc, B.tyC]; rfl
  show (if ((PySem.W.clsIn K D).isSome && PySem.W.typeIn K (.ref D) == some (.type "type")) = true then PySem.W.subIn K t (.ref D) else none) = some b
  rw [if_pos q]
  exact hs
section
variable {K : PySem.W.Frag}
theorem trInit_mk {f D : Addr} {oc : Value} {od an : Option Addr} {doc pm cdv ct : Value} {osl : Array (Option Value)} {t1 t2 t3 t4 : Tok} (h : K.lookup f = some ⟨oc, od, .func (PySem.W.fnOf "__init__" "Tracker.__init__" (defArgs sTI) (defBody sTI) (defScope sTI) .none (.ref D) doc pm an cdv ct), osl⟩) (hc : PySem.W.codeIn K cdv "Tracker.__init__" = true)
    (d1 : PySem.W.nsIn K D "seek" = some (some (.int 0 t1))) (d2 : PySem.W.nsIn K D "empty" = some (some (.str "none" t2))) (d3 : PySem.W.nsIn K D "strange" = some (some (.str "first" t3))) (d4 : PySem.W.nsIn K D "pause" = some (some (.str "clear" t4))) : TrInit K f :=
  ⟨⟨oc, od, D, doc, pm, an, cdv, ct, osl, h, hc, ⟨t1, d1⟩, ⟨t2, d2⟩, ⟨t3, d3⟩, ⟨t4, d4⟩⟩⟩
theorem trCh_mk {f : Addr} {oc : Value} {od an : Option Addr} {kV doc pm cdv ct : Value} {osl : Array (Option Value)} (h : K.lookup f = some ⟨oc, od, .func (PySem.W.fnOf "changed" "Tracker.changed" (defArgs sTC) (defBody sTC) (defScope sTC) .none kV doc pm an cdv ct), osl⟩) (hc : PySem.W.codeIn K cdv "Tracker.changed" = true) (k : PySem.W.keepIn K (.ref f) = true) : TrCh K f :=
  ⟨⟨oc, od, kV, doc, pm, an, cdv, ct, osl, h, hc⟩, k⟩
theorem kt2 {t : Addr} {od : Option Addr} {n : Nat} {osl : Array (Option Value)} {a b : Str} {ta tb : Tok} (h : K.lookup t = some ⟨.type "tuple", od, .seq #[.str a ta, .str b tb] n, osl⟩) : KT K t [.str a, .str b] :=
  ⟨_, _, n, h, rfl, rfl, by show 2 ≤ sizeLine; decide, .cons ⟨ta, rfl⟩ (.cons ⟨tb, rfl⟩ .nil)⟩
theorem kt5 {t : Addr} {od : Option Addr} {n : Nat} {osl : Array (Option Value)} {a b c d e : Str} {ta tb tc td te : Tok} (h : K.lookup t = some ⟨.type "tuple", od, .seq #[.str a ta, .str b tb, .str c tc, .str d td, .str e te] n, osl⟩) : KT K t [.str a, .str b, .str c, .str d, .str e] :=
  ⟨_, _, n, h, rfl, rfl, by show 5 ≤ sizeLine; decide, .cons ⟨ta, rfl⟩ (.cons ⟨tb, rfl⟩ (.cons ⟨tc, rfl⟩ (.cons ⟨td, rfl⟩ (.cons ⟨te, rfl⟩ .nil))))⟩
theorem cval_mk {C : Addr} {mc : Value} {tk : Tok} (h : PySem.W.findCls K (.ref C) mc "MOST" = some (.val (.int 4 tk))) : CVal K C mc "MOST" (.int 4) (.int 4 tk) := ⟨h, ⟨tk, rfl⟩⟩
theorem propOf_mk {C p g : Addr} {f : Str} {rest : List Value} (a : PySem.W.findIn K (.ref C) f = some (some (.ref p))) (b : PySem.W.specialIn K (.ref p) "__get__" = some (some (.builtin "property.__get__"))) (c : PySem.W.takesIn K (.ref p) = some true) (d : PySem.W.recIn K p "property" = some (.ref g :: rest)) : PropOf K C f p g := ⟨a, b, c, rest, d⟩
end

theorem all_mk {P : Program} {w : World} {K : PySem.W.Frag} {h : Heap} {mg : Str → Option Value} {C fa tE tS tP tF fNum fCkR fCkN fCkW fCkF fBg fD fO fS fSl fPl fMa fW fRo fg3 fg4 fg5 fg6 fEq fLn fRp fI fCh p3 p4 p5 p6 : Addr} {gNum gCkR gCkN gCkW gCkF gBg gD gO gS gSl gPl gMa gW hRo hg3 hg4 hg5 hg6 hEq hLn hRp : FuncData} {mc : Value} {k1 k2 k3 : Tok} (X : K.In h) (G : h.Ns mainGlobals mg) (hfa : mg "law" = some (.ref fa))
    (aNum : PySem.W.nsIn K mainGlobals "is_number" = some (some (.ref fNum)))
    (aCkR : PySem.W.nsIn K mainGlobals "check_rooms" = some (some (.ref fCkR)))
    (aCkN : PySem.W.nsIn K mainGlobals "check_number" = some (some (.ref fCkN)))
    (aCkW : PySem.W.nsIn K mainGlobals "check_word" = some (some (.ref fCkW)))
    (aCkF : PySem.W.nsIn K mainGlobals "check_fields" = some (some (.ref fCkF)))
    (aBg : PySem.W.nsIn K mainGlobals "_law_bag" = some (some (.ref fBg)))
    (aD : PySem.W.nsIn K mainGlobals "_law_draw" = some (some (.ref fD)))
    (aO : PySem.W.nsIn K mainGlobals "_law_of" = some (some (.ref fO)))
    (aS : PySem.W.nsIn K mainGlobals "_law_same" = some (some (.ref fS)))
    (aSl : PySem.W.nsIn K mainGlobals "_law_slip_words" = some (some (.ref fSl)))
    (aPl : PySem.W.nsIn K mainGlobals "_law_planned" = some (some (.ref fPl)))
    (aMa : PySem.W.nsIn K mainGlobals "_law_made_tracker" = some (some (.ref fMa)))
    (aW : PySem.W.nsIn K mainGlobals "law" = some (some (.ref fW)))
    (aC : PySem.W.nsIn K mainGlobals "Tracker" = some (some (.ref C)))
    (aE : PySem.W.nsIn K mainGlobals "EMPTY_WORDS" = some (some (.ref tE)))
    (aT : PySem.W.nsIn K mainGlobals "STRANGE_WORDS" = some (some (.ref tS)))
    (aP : PySem.W.nsIn K mainGlobals "PAUSE_WORDS" = some (some (.ref tP)))
    (aF : PySem.W.nsIn K mainGlobals "TRACKER_FIELDS" = some (some (.ref tF)))
    (aK : PySem.W.nsIn K mainGlobals "MOST_SEEK" = some (some (.int 3 k1)))
    (aB : PySem.W.nsIn K mainGlobals "MOST_BELTS" = some (some (.int 3 k2)))
    (z_len : PySem.W.nsIn K mainGlobals "len" = some none)
    (z_int : PySem.W.nsIn K mainGlobals "int" = some none)
    (z_isinstance : PySem.W.nsIn K mainGlobals "isinstance" = some none)
    (z_bool : PySem.W.nsIn K mainGlobals "bool" = some none)
    (z_str : PySem.W.nsIn K mainGlobals "str" = some none)
    (z_list : PySem.W.nsIn K mainGlobals "list" = some none)
    (z_tuple : PySem.W.nsIn K mainGlobals "tuple" = some none)
    (z_all : PySem.W.nsIn K mainGlobals "all" = some none)
    (z_zip : PySem.W.nsIn K mainGlobals "zip" = some none)
    (z_range : PySem.W.nsIn K mainGlobals "range" = some none)
    (z_repr : PySem.W.nsIn K mainGlobals "repr" = some none)
    (z_any : PySem.W.nsIn K mainGlobals "any" = some none)
    (z_dict : PySem.W.nsIn K mainGlobals "dict" = some none)
    (kE : KT K tE emptyW)
    (kS : KT K tS strangeW)
    (kP : KT K tP pauseW)
    (kF : KT K tF fieldsW)
    (cl : Cls K C)
    (n1 : PySem.W.findIn K (.ref C) "_rooms" = some none)
    (n2 : PySem.W.findIn K (.ref C) "_seek" = some none)
    (n3 : PySem.W.findIn K (.ref C) "_empty" = some none)
    (n4 : PySem.W.findIn K (.ref C) "_strange" = some none)
    (n5 : PySem.W.findIn K (.ref C) "_pause" = some none)
    (cr : CRead K C mc)
    (cv : CVal K C mc "MOST" (.int 4) (.int 4 k3))
    (tc1 : PySem.W.findIn K (.ref C) "__class__" = some (some (.builtin "object.__class__")))
    (tc2 : PySem.W.specialIn K (.builtin "object.__class__") "__get__" = some (some (.builtin "getset_descriptor.__get__")))
    (tc3 : PySem.W.takesIn K (.builtin "object.__class__") = some true)
    (tc4 : PySem.W.mroIn K C (.type "object") = some true)
    (tc5 : BasF K C)
    (nfC : PySem.W.notFirst K C (.ref C) = true)
    (nfL : PySem.W.notFirst K C (.type "list") = true)
    (koL : PySem.W.subIn K (.type "list") (.ref C) = some false)
    (mk : Mk K C fI)
    (tI : TrInit K fI)
    (mCh : Meth K C "changed" fCh)
    (tCh : TrCh K fCh)
    (mRo : Meth K C "rooms" fRo)
    (q3 : PropOf K C "seek" p3 fg3)
    (q4 : PropOf K C "empty" p4 fg4)
    (q5 : PropOf K C "strange" p5 fg5)
    (q6 : PropOf K C "pause" p6 fg6)
    (sLn : Spec1 K C fLn "__len__")
    (sRp : Spec1 K C fRp "__repr__")
    (eA : PySem.W.findIn K (.ref C) "__eq__" = some (some (.ref fEq)))
    (eF : PySem.W.isFn K (.ref fEq) = true)
    (FNum : Fun K "is_number" "is_number" sNum fNum gNum)
    (FCkR : Fun K "check_rooms" "check_rooms" sCkRooms fCkR gCkR)
    (FCkN : Fun K "check_number" "check_number" sCkNum fCkN gCkN)
    (FCkW : Fun K "check_word" "check_word" sCkWord fCkW gCkW)
    (FCkF : Fun K "check_fields" "check_fields" sCkF fCkF gCkF)
    (FBg : Fun K "_law_bag" "_law_bag" sBag fBg gBg)
    (FD : Fun K "_law_draw" "_law_draw" sDraw fD gD)
    (FO : Fun K "_law_of" "_law_of" sOf fO gO)
    (FS : Fun K "_law_same" "_law_same" sSame fS gS)
    (FSl : Fun K "_law_slip_words" "_law_slip_words" sSlip fSl gSl)
    (FPl : Fun K "_law_planned" "_law_planned" sPlan fPl gPl)
    (FMa : Fun K "_law_made_tracker" "_law_made_tracker" sMade fMa gMa)
    (FW : Fun K "law" "law" sLaw fW gW)
    (FRo : Fun K "rooms" "Tracker.rooms" sTR fRo hRo)
    (Fg3 : Fun K "seek" "Tracker.seek" (sTG 3) fg3 hg3)
    (Fg4 : Fun K "empty" "Tracker.empty" (sTG 4) fg4 hg4)
    (Fg5 : Fun K "strange" "Tracker.strange" (sTG 5) fg5 hg5)
    (Fg6 : Fun K "pause" "Tracker.pause" (sTG 6) fg6 hg6)
    (FEq : Fun K "__eq__" "Tracker.__eq__" sTEq fEq hEq)
    (FLn : Fun K "__len__" "Tracker.__len__" sTLen fLn hLn)
    (FRp : Fun K "__repr__" "Tracker.__repr__" sTRep fRp hRp)
    : ∃ fd : FuncData, (∀ (s : Shared) (v : Value), BindsTo s fd ⟨[v], []⟩ [("_law_script", v)]) ∧ ∀ base : Heap, K.In base → base.Ns mainGlobals mg → FnOk P w K mg base CX0 7 fa fd ["_law_script"] (spLaw K) := by
  have e := hfa.symm.trans (PySem.W.mg_of X G aW)
  obtain rfl : fa = fW := by
    have z := Option.some.inj e
    injection z
  have bNum : Binds K gNum ["value", "least", "most"] [] := FNum.binds fun _ _ _ _ _ _ us hl => match us, hl with | [_, _, _], _ => rfl
  have bCkR : Binds K gCkR ["rooms", "most"] [] := FCkR.binds fun _ _ _ _ _ _ us hl => match us, hl with | [_, _], _ => rfl
  have bCkN : Binds K gCkN ["value", "least", "most"] [] := FCkN.binds fun _ _ _ _ _ _ us hl => match us, hl with | [_, _, _], _ => rfl
  have bCkW : Binds K gCkW ["value", "words"] [] := FCkW.binds fun _ _ _ _ _ _ us hl => match us, hl with | [_, _], _ => rfl
  have bCkF : Binds K gCkF ["fields", "names"] [] := FCkF.binds fun _ _ _ _ _ _ us hl => match us, hl with | [_, _], _ => rfl
  have bBg : Binds K gBg ["_law_script"] [] := FBg.binds fun _ _ _ _ _ _ us hl => match us, hl with | [_], _ => rfl
  have bD : Binds K gD ["_law_bag_here", "_law_many"] [] := FD.binds fun _ _ _ _ _ _ us hl => match us, hl with | [_, _], _ => rfl
  have bO : Binds K gO ["_law_bag_here", "_law_some"] [] := FO.binds fun _ _ _ _ _ _ us hl => match us, hl with | [_, _], _ => rfl
  have bS : Binds K gS ["_law_found", "_law_due"] [] := FS.binds fun _ _ _ _ _ _ us hl => match us, hl with | [_, _], _ => rfl
  have bSl : Binds K gSl ["_law_bag_here"] [] := FSl.binds fun _ _ _ _ _ _ us hl => match us, hl with | [_], _ => rfl
  have bPl : Binds K gPl ["_law_bag_here", "_law_most", "_law_wide"] [] := FPl.binds fun _ _ _ _ _ _ us hl => match us, hl with | [_, _, _], _ => rfl
  have bMa : Binds K gMa ["_law_plan"] [] := FMa.binds fun _ _ _ _ _ _ us hl => match us, hl with | [_], _ => rfl
  have bW : Binds K gW ["_law_script"] [] := FW.binds fun _ _ _ _ _ _ us hl => match us, hl with | [_], _ => rfl
  have bRo : Binds K hRo ["self"] [] := FRo.binds fun _ _ _ _ _ _ us hl => match us, hl with | [_], _ => rfl
  have bg3 : Binds K hg3 ["self"] [] := Fg3.binds fun _ _ _ _ _ _ us hl => match us, hl with | [_], _ => rfl
  have bg4 : Binds K hg4 ["self"] [] := Fg4.binds fun _ _ _ _ _ _ us hl => match us, hl with | [_], _ => rfl
  have bg5 : Binds K hg5 ["self"] [] := Fg5.binds fun _ _ _ _ _ _ us hl => match us, hl with | [_], _ => rfl
  have bg6 : Binds K hg6 ["self"] [] := Fg6.binds fun _ _ _ _ _ _ us hl => match us, hl with | [_], _ => rfl
  have bEq : Binds K hEq ["self", "other"] [] := FEq.binds fun _ _ _ _ _ _ us hl => match us, hl with | [_, _], _ => rfl
  have bLn : Binds K hLn ["self"] [] := FLn.binds fun _ _ _ _ _ _ us hl => match us, hl with | [_], _ => rfl
  have bRp : Binds K hRp ["self"] [] := FRp.binds fun _ _ _ _ _ _ us hl => match us, hl with | [_], _ => rfl
  have M := fun {n : Str} {v : Value} (e : PySem.W.nsIn K mainGlobals n = some (some v)) => PySem.W.mg_of X G e
  have Z := fun {n : Str} (e : PySem.W.nsIn K mainGlobals n = some none) => PySem.W.mg_none_of X G e
  have B : Blt mg := ⟨Z z_len, Z z_int, Z z_isinstance, Z z_bool, Z z_str, Z z_list, Z z_tuple, Z z_all, Z z_zip⟩
  have T : TrF K mg C := ⟨cl, M aC, n1, n2, n3, n4, n5, ⟨mc, k3, cr, cv⟩, ⟨k1, M aK⟩, ⟨tE, M aE, kE⟩, ⟨tS, M aT, kS⟩, ⟨tP, M aP, kP⟩⟩
  have TC : TyC K C := ⟨tc1, tc2, tc3, tc4, kit_own tc5 tc5.se⟩
  refine ⟨gW, fun s v => ?_, fun base _ _ => ?_⟩
  · obtain ⟨⟨oc, od, kV, doc, pm, an, cdv, ct, osl, rfl, _, _⟩, _⟩ := FW
    exact .of_eq rfl
  have GNum := ok_num (P := P) (w := w) (base := base) FNum B.isi B.bool B.int
  have GCkN := ok_cknum (P := P) (w := w) (base := base) FCkN GNum (M aNum) FNum.kp bNum
  have GCkW := ok_ckword (P := P) (w := w) (mg := mg) (base := base) FCkW
  have GCkR := ok_ckrooms (P := P) (w := w) (base := base) FCkR GCkN (M aCkN) FCkN.kp bCkN B.len (M aB)
  have GCkF := ok_ckf (P := P) (w := w) (mg := mg) (base := base) FCkF
  have GD := ok_draw (P := P) (w := w) (base := base) FD B.len B.int
  have GO := ok_of (P := P) (w := w) (base := base) FO GD (M aD) FD.kp bD B.len
  have GSl := ok_slip (P := P) (w := w) (base := base) FSl GD (M aD) FD.kp bD
  have GPl := ok_plan (P := P) (w := w) (base := base) FPl GD (M aD) FD.kp bD GO (M aO) FO.kp bO GSl (M aSl) FSl.kp bSl (Z z_range)
  have S1 := st_one (CX := CX0) StX.cxUp_none tI T GCkR (M aCkR) FCkR.kp bCkR GCkN (M aCkN) FCkN.kp bCkN GCkW (M aCkW) FCkW.kp bCkW
  have S2 := st_two (CX := CX0) StX.cxUp_none tI T GCkR (M aCkR) FCkR.kp bCkR GCkN (M aCkN) FCkN.kp bCkN GCkW (M aCkW) FCkW.kp bCkW
  have S3 := st_three (CX := CX0) StX.cxUp_none tI T GCkR (M aCkR) FCkR.kp bCkR GCkN (M aCkN) FCkN.kp bCkN GCkW (M aCkW) FCkW.kp bCkW
  have S4 := st_none (CX := CX0) StX.cxUp_none tI T GCkR (M aCkR) FCkR.kp bCkR GCkN (M aCkN) FCkN.kp bCkN GCkW (M aCkW) FCkW.kp bCkW
  have GMa := ok_made (P := P) (w := w) (base := base) FMa T mk B.len S1 S2 S3
  have c : ChF P w K mg base fCkF fI C gCkF := ⟨T, mk, GCkF, M aCkF, FCkF.kp, bCkF, ⟨tF, M aF, kF⟩, S1⟩
  exact ok_law FW {
    T := T
    TC := TC
    bag := ⟨fBg, gBg, ok_bag FBg B.len B.int, M aBg, FBg.kp, bBg⟩
    plan := ⟨fPl, gPl, GPl, M aPl, FPl.kp, bPl⟩
    made := ⟨fMa, gMa, GMa, M aMa, FMa.kp, bMa⟩
    same := ⟨fS, gS, ok_same FS (M aS) bS B 4, M aS, FS.kp, bS⟩
    rooms := ⟨fRo, hRo, ok_rooms FRo T B.list, mRo, bRo⟩
    seek := ⟨p3, fg3, hg3, q3, ok_g3 Fg3 T, bg3⟩
    empty := ⟨p4, fg4, hg4, q4, ok_g4 Fg4 T, bg4⟩
    strange := ⟨p5, fg5, hg5, q5, ok_g5 Fg5 T, bg5⟩
    pause := ⟨p6, fg6, hg6, q6, ok_g6 Fg6 T, bg6⟩
    len := ⟨fLn, hLn, sLn, ok_tlen FLn T B.len, bLn⟩
    rep := ⟨fRp, hRp, sRp, ok_trep FRp T B.len, bRp⟩
    eq := ⟨fEq, hEq, eA, eF, ok_teq FEq T TC B.isi, bEq⟩
    ch := ⟨fCh, mCh, tCh.kp, ch_0 tCh c, ch_rooms tCh c, ch_seek tCh c, ch_empty tCh c, ch_strange tCh c, ch_pause tCh c, ch_two tCh c, ch_three tCh c⟩
    new := ⟨fI, mk, S4⟩
    nfC := nfC
    nfL := nfL
    koL := kit_to tc5 rfl koL
    zRange := Z z_range
    zLen := B.len
    zRepr := Z z_repr
    zStr := B.str
    zInt := B.int
    zAny := Z z_any
    zDict := Z z_dict
    zZip := B.zip }

theorem walk {l : PySem.W.OpenLaw} {q : Program} {loose : List Str} {XP : (Str → Option Value) → Heap → Prop} {YP : World → Heap → Prop} {d : DefRec} {K : Params → PySem.W.Frag} (hn : l.most = some 63) (hdf : d.params.defaults = [])
    (hY : ∀ (w : World) (h : Heap), YP w h → (K w.params).In h)
    (F : ∀ (w : World) (mg : Str → Option Value) (fa : Addr) (h : Heap), (K w.params).In h → h.Ns mainGlobals mg → mg d.name = some (.ref fa) → ∃ fd : FuncData, (∀ (s : Shared) (u : Value), BindsTo s fd ⟨[u], []⟩ [("_law_script", u)]) ∧ ∀ base : Heap, (K w.params).In base → base.Ns mainGlobals mg → FnOk l.prog w (K w.params) mg base CX0 7 fa fd ["_law_script"] (spLaw (K w.params))) :
    PySem.W.WalkO q loose XP YP l.row.toRowW d [] (fun f vs => PySem.call f vs) :=
  L2.walk_of (n := 63) (k := 7) (x := "_law_script") (CX := fun _ => CX0) (sp := fun w => spLaw (K w.params)) hn (by decide) hdf ⟨rfl, by decide, by decide⟩ hY F (fun _ _ a ns hl _ hS => ⟨a, ns, rfl, hS, hl, fun _ => rfl⟩) fun _ _ _ _ _ z => z
end Own

open PySem PySem.W PyProof.Rows in
set_option maxRecDepth 100000 in
set_option maxHeartbeats 0 in
theorem PySem.Challenge.cw_ownchute_k05_trackers_made_holds : PySem.Challenge.rw_ownchute_k05_trackers_made.Holds := by
  w_on; o_law; k_head; (case hw => w_witness2)
  k_fill
  refine Own.walk (l := PySem.Challenge.rw_ownchute_k05_trackers_made) rfl rfl (fun w h Y => PySem.W.kIn_of Y) ?F
  case F =>
    intro w mg fa h KX G hmg
    refine' Own.all_mk (mc := .type "type") KX G hmg ?aNum ?aCkR ?aCkN ?aCkW ?aCkF ?aBg ?aD ?aO ?aS ?aSl ?aPl ?aMa ?aW ?aC ?aE ?aT ?aP ?aF ?aK ?aB ?z_len ?z_int ?z_isinstance ?z_bool ?z_str ?z_list ?z_tuple ?z_all ?z_zip ?z_range ?z_repr ?z_any ?z_dict ?kE ?kS ?kP ?kF ?cl ?n1 ?n2 ?n3 ?n4 ?n5 ?cr ?cv ?tc1 ?tc2 ?tc3 ?tc4 ?tc5 ?nfC ?nfL ?koL ?mk ?tI ?mCh ?tCh ?mRo ?q3 ?q4 ?q5 ?q6 ?sLn ?sRp ?eA ?eF ?FNum ?FCkR ?FCkN ?FCkW ?FCkF ?FBg ?FD ?FO ?FS ?FSl ?FPl ?FMa ?FW ?FRo ?Fg3 ?Fg4 ?Fg5 ?Fg6 ?FEq ?FLn ?FRp
    (case aNum => (k_is))
    (case aCkR => (k_is))
    (case aCkN => (k_is))
    (case aCkW => (k_is))
    (case aCkF => (k_is))
    (case aBg => (k_is))
    (case aD => (k_is))
    (case aO => (k_is))
    (case aS => (k_is))
    (case aSl => (k_is))
    (case aPl => (k_is))
    (case aMa => (k_is))
    (case aW => (k_is))
    (case aC => (k_is))
    (case aE => (k_is))
    (case aT => (k_is))
    (case aP => (k_is))
    (case aF => (k_is))
    (case aK => (k_is))
    (case aB => (k_is))
    (case z_len => (k_is))
    (case z_int => (k_is))
    (case z_isinstance => (k_is))
    (case z_bool => (k_is))
    (case z_str => (k_is))
    (case z_list => (k_is))
    (case z_tuple => (k_is))
    (case z_all => (k_is))
    (case z_zip => (k_is))
    (case z_range => (k_is))
    (case z_repr => (k_is))
    (case z_any => (k_is))
    (case z_dict => (k_is))
    (case kE => (exact Own.kt2 (by k_is)))
    (case kS => (exact Own.kt2 (by k_is)))
    (case kP => (exact Own.kt2 (by k_is)))
    (case kF => (exact Own.kt5 (by k_is)))
    (case cl => (constructor <;> k_is))
    (case n1 => (k_is))
    (case n2 => (k_is))
    (case n3 => (k_is))
    (case n4 => (k_is))
    (case n5 => (k_is))
    (case cr => (constructor <;> k_is))
    (case cv => (exact Own.cval_mk (by k_is)))
    (case tc1 => (k_is))
    (case tc2 => (k_is))
    (case tc3 => (k_is))
    (case tc4 => (k_is))
    (case tc5 => (constructor <;> k_is))
    (case nfC => (k_is))
    (case nfL => (k_is))
    (case koL => (k_is))
    (case mk => (constructor <;> k_is))
    (case tI => ((refine' Own.trInit_mk ?x1 ?x2 ?x3 ?x4 ?x5 ?x6; (case x1 => k_is); (case x2 => k_is); (case x3 => k_is); (case x4 => k_is); (case x5 => k_is); (case x6 => k_is))))
    (case mCh => (constructor <;> k_is))
    (case tCh => ((refine' Own.trCh_mk ?x1 ?x2 ?x3; (case x1 => k_is); (case x2 => k_is); (case x3 => k_is))))
    (case mRo => (constructor <;> k_is))
    (case q3 => ((refine' Own.propOf_mk ?x1 ?x2 ?x3 ?x4; (case x1 => k_is); (case x2 => k_is); (case x3 => k_is); (case x4 => k_is))))
    (case q4 => ((refine' Own.propOf_mk ?x1 ?x2 ?x3 ?x4; (case x1 => k_is); (case x2 => k_is); (case x3 => k_is); (case x4 => k_is))))
    (case q5 => ((refine' Own.propOf_mk ?x1 ?x2 ?x3 ?x4; (case x1 => k_is); (case x2 => k_is); (case x3 => k_is); (case x4 => k_is))))
    (case q6 => ((refine' Own.propOf_mk ?x1 ?x2 ?x3 ?x4; (case x1 => k_is); (case x2 => k_is); (case x3 => k_is); (case x4 => k_is))))
    (case sLn => (constructor <;> k_is))
    (case sRp => (constructor <;> k_is))
    (case eA => (k_is))
    (case eF => (k_is))
    (case FNum => ((refine' L2.fun_mk ?x1 ?x2 ?x3; (case x1 => k_is); (case x2 => k_is); (case x3 => k_is))))
    (case FCkR => ((refine' L2.fun_mk ?x1 ?x2 ?x3; (case x1 => k_is); (case x2 => k_is); (case x3 => k_is))))
    (case FCkN => ((refine' L2.fun_mk ?x1 ?x2 ?x3; (case x1 => k_is); (case x2 => k_is); (case x3 => k_is))))
    (case FCkW => ((refine' L2.fun_mk ?x1 ?x2 ?x3; (case x1 => k_is); (case x2 => k_is); (case x3 => k_is))))
    (case FCkF => ((refine' L2.fun_mk ?x1 ?x2 ?x3; (case x1 => k_is); (case x2 => k_is); (case x3 => k_is))))
    (case FBg => ((refine' L2.fun_mk ?x1 ?x2 ?x3; (case x1 => k_is); (case x2 => k_is); (case x3 => k_is))))
    (case FD => ((refine' L2.fun_mk ?x1 ?x2 ?x3; (case x1 => k_is); (case x2 => k_is); (case x3 => k_is))))
    (case FO => ((refine' L2.fun_mk ?x1 ?x2 ?x3; (case x1 => k_is); (case x2 => k_is); (case x3 => k_is))))
    (case FS => ((refine' L2.fun_mk ?x1 ?x2 ?x3; (case x1 => k_is); (case x2 => k_is); (case x3 => k_is))))
    (case FSl => ((refine' L2.fun_mk ?x1 ?x2 ?x3; (case x1 => k_is); (case x2 => k_is); (case x3 => k_is))))
    (case FPl => ((refine' L2.fun_mk ?x1 ?x2 ?x3; (case x1 => k_is); (case x2 => k_is); (case x3 => k_is))))
    (case FMa => ((refine' L2.fun_mk ?x1 ?x2 ?x3; (case x1 => k_is); (case x2 => k_is); (case x3 => k_is))))
    (case FW => ((refine' L2.fun_mk ?x1 ?x2 ?x3; (case x1 => k_is); (case x2 => k_is); (case x3 => k_is))))
    (case FRo => ((refine' L2.fun_mk ?x1 ?x2 ?x3; (case x1 => k_is); (case x2 => k_is); (case x3 => k_is))))
    (case Fg3 => ((refine' L2.fun_mk ?x1 ?x2 ?x3; (case x1 => k_is); (case x2 => k_is); (case x3 => k_is))))
    (case Fg4 => ((refine' L2.fun_mk ?x1 ?x2 ?x3; (case x1 => k_is); (case x2 => k_is); (case x3 => k_is))))
    (case Fg5 => ((refine' L2.fun_mk ?x1 ?x2 ?x3; (case x1 => k_is); (case x2 => k_is); (case x3 => k_is))))
    (case Fg6 => ((refine' L2.fun_mk ?x1 ?x2 ?x3; (case x1 => k_is); (case x2 => k_is); (case x3 => k_is))))
    (case FEq => ((refine' L2.fun_mk ?x1 ?x2 ?x3; (case x1 => k_is); (case x2 => k_is); (case x3 => k_is))))
    (case FLn => ((refine' L2.fun_mk ?x1 ?x2 ?x3; (case x1 => k_is); (case x2 => k_is); (case x3 => k_is))))
    (case FRp => ((refine' L2.fun_mk ?x1 ?x2 ?x3; (case x1 => k_is); (case x2 => k_is); (case x3 => k_is))))
