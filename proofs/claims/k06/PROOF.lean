import PyProof.Rows.All
import Wide.All
import OpenK.AllK
import Wide.FinOn
import PyProof.EqAt
import PyProof.EqKinds
import PyProof.TupleCall
import HandS.ForMost
import HandS.Walk
import HandS.Zip
import HandS.IsInst
import HandS.Wide
import HandS.Flow
import HandS.Exc
import KE.KxIndex
import KE.KxText
import HandS.Deep
import HandS.SortKw
import HandS.Style
import HandS.TupAny
import KE.DatumOrd
import PySem.Challenge.RW_hiddenrank_k06_conditions_recognized
set_option Elab.async false
set_option linter.all false
set_option maxRecDepth 100000
set_option maxHeartbeats 4000000
/-! general words: heaps, a frame rule for calls, data under growing heaps -/
namespace Hr
open PySem PySem.Spec PyProof.Rows L2
/-! ### heaps -/
theorem same_new {H : Hp} {p : Addr} {o : HO} (h : H p = none) : Same H (upd H p o) := fun b u e => by
  rw [upd_ne (ne_of_none e h)]
  exact e
theorem upd_comm {H : Hp} {a b : Addr} {o u : HO} (h : a ≠ b) : upd (upd H a o) b u = upd (upd H b u) a o := by
  funext c
  by_cases e : c = b
  · rw [e, upd_same, upd_ne (Ne.symm h), upd_same]
  · by_cases f : c = a
    · rw [f, upd_ne h, upd_same, upd_same]
    · rw [upd_ne e, upd_ne f, upd_ne f, upd_ne e]
theorem upd_id {H : Hp} {a : Addr} {o : HO} (h : H a = some o) : upd H a o = H := by
  funext c
  by_cases e : c = a
  · rw [e, upd_same, h]
  · rw [upd_ne e]
theorem Same.seqT {K : PySem.W.Frag} {H H' : Hp} {a : Addr} {xs : List V} (e : Same H H') (h : SqT K H a xs) : SqT K H' a xs := by
  rcases h with (h | ⟨o, h⟩) | h
  · exact .inl (.inl (e _ _ h))
  · exact .inl (.inr ⟨o, e _ _ h⟩)
  · exact .inr h
mutual
theorem dp_mono {K : PySem.W.Frag} {H H' : Hp} (e : Same H H') : ∀ {v : V} {d : PyData}, Dp K H v d → Dp K H' v d
  | _, _, .non => .non
  | _, _, .bl b => .bl b
  | _, _, .int i => .int i
  | _, _, .str x => .str x
  | _, _, .lst h t => .lst (e.seq h) (dpa_mono e t)
  | _, _, .tup h t => .tup (Same.seqT e h) (dpa_mono e t)
theorem dpa_mono {K : PySem.W.Frag} {H H' : Hp} (e : Same H H') : ∀ {vs : List V} {ds : List PyData}, DpAll K H vs ds → DpAll K H' vs ds
  | _, _, .nil => .nil
  | _, _, .cons h t => .cons (dp_mono e h) (dpa_mono e t)
end
/-! ### heaps without some lists -/
def dl (H : Hp) (S : List Addr) : Hp := fun a => if a ∈ S then none else H a
theorem dl_at {H : Hp} {S : List Addr} {a : Addr} (h : a ∈ S) : dl H S a = none := by unfold dl; rw [if_pos h]
theorem dl_ne {H : Hp} {S : List Addr} {a : Addr} (h : a ∉ S) : dl H S a = H a := by unfold dl; rw [if_neg h]
theorem dl_nil {H : Hp} : dl H [] = H := by funext a; exact dl_ne (by simp)
theorem dl_some {H : Hp} {S : List Addr} {a : Addr} {o : HO} (h : dl H S a = some o) : a ∉ S ∧ H a = some o := by
  by_cases e : a ∈ S
  · rw [dl_at e] at h; cases h
  · rw [dl_ne e] at h; exact ⟨e, h⟩
theorem dl_le {H : Hp} {S : List Addr} : Same (dl H S) H := fun a o e => (dl_some e).2
theorem dl_sub {H : Hp} {S S' : List Addr} (h : ∀ a ∈ S, a ∈ S') : Same (dl H S') (dl H S) := fun a o e => by
  obtain ⟨h1, h2⟩ := dl_some e
  rw [dl_ne fun z => h1 (h a z)]
  exact h2
theorem dl_mono {H H' : Hp} {S : List Addr} (s : Same H H') : Same (dl H S) (dl H' S) := fun a o e => by
  obtain ⟨h1, h2⟩ := dl_some e
  rw [dl_ne h1]
  exact s a o h2
theorem dl_upd {H : Hp} {S : List Addr} {a : Addr} {o : HO} (h : a ∈ S) : dl (upd H a o) S = dl H S := by
  funext c
  by_cases e : c ∈ S
  · rw [dl_at e, dl_at e]
  · rw [dl_ne e, dl_ne e, upd_ne fun z => e (by rw [z]; exact h)]
theorem dl_new {H : Hp} {S : List Addr} {p : Addr} {o : HO} (h : p ∉ S) : dl (upd H p o) S = upd (dl H S) p o := by
  funext c
  by_cases e : c ∈ S
  · rw [dl_at e, upd_ne fun z => h (by rw [← z]; exact e), dl_at e]
  · rw [dl_ne e]
    by_cases f : c = p
    · rw [f, upd_same, upd_same]
    · rw [upd_ne f, upd_ne f, dl_ne e]
/-- H' with what H has at S -/
def bk (H' H : Hp) (S : List Addr) : Hp := fun a => if a ∈ S then H a else H' a
theorem bk_at {H' H : Hp} {S : List Addr} {a : Addr} (h : a ∈ S) : bk H' H S a = H a := by unfold bk; rw [if_pos h]
theorem bk_ne {H' H : Hp} {S : List Addr} {a : Addr} (h : a ∉ S) : bk H' H S a = H' a := by unfold bk; rw [if_neg h]
theorem dl_bk {H' H : Hp} {S : List Addr} (h : ∀ a ∈ S, H' a = none) : dl (bk H' H S) S = H' := by
  funext c
  by_cases e : c ∈ S
  · rw [dl_at e, h c e]
  · rw [dl_ne e, bk_ne e]
theorem same_bk {H' H : Hp} {S : List Addr} (s : Same (dl H S) H') : Same H (bk H' H S) := fun a o e => by
  by_cases z : a ∈ S
  · rw [bk_at z]; exact e
  · rw [bk_ne z]; exact s a o (by rw [dl_ne z]; exact e)
theorem bk_le {H' H : Hp} {S : List Addr} (h : ∀ a ∈ S, H' a = none) : Same H' (bk H' H S) := fun a o e => by
  by_cases z : a ∈ S
  · rw [h a z] at e; cases e
  · rw [bk_ne z]; exact e
/-! ### the frame rule: tracked lists that the callee is not told of stay as they are -/
def Lists (H : Hp) (S : List Addr) : Prop := ∀ a ∈ S, ∃ xs, H a = some (.lst xs)
theorem Lists.ne {H : Hp} {S : List Addr} (hb : Lists H S) {a : Addr} {o : HO} (h : H a = some o) (d : ∀ xs, o ≠ .lst xs) : a ∉ S := fun z => by
  obtain ⟨xs, e⟩ := hb a z
  rw [h] at e
  exact d xs (Option.some.inj e)
theorem hok_dl {P : Program} {w : World} {H : Hp} {h : Heap} {S : List Addr} (ok : HOk P w H h) (hb : Lists H S) : HOk P w (dl H S) h := fun a o e => by
  refine (ok a o (dl_le _ _ e)).stay (fun _ _ _ q => q) (fun c q => ?_) fun c ys q => ?_
  · rw [dl_ne (hb.ne q fun _ z => by cases z)]; exact q
  · rw [dl_ne (hb.ne q fun _ z => by cases z)]; exact q
theorem env_dl {P : Program} {w : World} {K : PySem.W.Frag} {mg : Str → Option Value} {base : Heap} {A : Around} {outer : List Env} {s : Shared} {H : Hp} {S : List Addr} (E0 : Env0 P w K mg base A outer s H) (hb : Lists H S) :
    Env0 P w K mg base A outer s (dl H S) :=
  ⟨E0.frames, E0.mod, fun c o e => ⟨(E0.bs c o e).1, by
      by_cases z : c ∈ S
      · rw [dl_at z]
      · rw [dl_ne z]; exact (E0.bs c o e).2⟩, E0.bsz, E0.funs, fun c hc => by
      by_cases z : c ∈ S
      · rw [dl_at z]
      · rw [dl_ne z]; exact E0.frf c hc, hok_dl E0.hok hb, E0.bare⟩
/-- the promise with some tracked lists kept aside -/
def framed (sp : Sp) : Sp := fun vs H Q E => ∃ S : List Addr, Lists H S ∧ sp vs (dl H S) (fun v H' => (∀ a ∈ S, H' a = none) → Q v (bk H' H S)) fun c d H' => (∀ a ∈ S, H' a = none) → E c d (bk H' H S)
theorem un_bk {fs : List Addr} {H H' : Hp} {h h' : Heap} {S : List Addr} (u : Un fs [] (dl H S) H' h h') (hb : Lists H S) (ex : ∀ a ∈ S, ∃ o, h.get? a = some o) : (∀ a ∈ S, H' a = none) ∧ Un fs [] H (bk H' H S) h h' := by
  have fr : ∀ a ∈ S, H' a = none := fun a ha => by
    obtain ⟨o, ho⟩ := ex a ha
    exact u.free a o ho (dl_at ha) (by simp)
  have hid : ∀ c, H c = none → dl H S c = none := fun c n => by
    by_cases z : c ∈ S
    · rw [dl_at z]
    · rw [dl_ne z]; exact n
  refine ⟨fr, ⟨fun c q e n hc hx => u.keep c q e (hid c n) hc hx, fun c q e n hc hx => u.slot c q e (hid c n) hc hx, fun c q e n hx => ?_, u.there, fun c ys e => ?_, fun c q v e => ?_, fun c ps e => ?_⟩⟩
  · have z : c ∉ S := fun z => by
      obtain ⟨xs, k⟩ := hb c z
      rw [n] at k; cases k
    rw [bk_ne z]
    exact u.free c q e (hid c n) hx
  · have z := hb.ne e fun _ z => by cases z
    rw [bk_ne z]
    exact u.tups c ys (by rw [dl_ne z]; exact e)
  · have z := hb.ne e fun _ z => by cases z
    rw [bk_ne z]
    exact u.frzs c q v (by rw [dl_ne z]; exact e)
  · have z := hb.ne e fun _ z => by cases z
    rw [bk_ne z]
    exact u.tbls c ps (by rw [dl_ne z]; exact e)
theorem hok_bk {P : Program} {w : World} {H H' : Hp} {h' : Heap} {S : List Addr} (ok : HOk P w H' h') (fr : ∀ a ∈ S, H' a = none) (nb : ∀ a ∈ S, ∀ o, H a = some o → ObjOk P w (bk H' H S) h' a o) : HOk P w (bk H' H S) h' := fun a o e => by
  by_cases z : a ∈ S
  · rw [bk_at z] at e
    exact nb a z o e
  · rw [bk_ne z] at e
    refine (ok a o e).stay (fun _ _ _ q => q) (fun c q => ?_) fun c ys q => ?_
    · rw [bk_ne fun k => by rw [fr c k] at q; cases q]; exact q
    · rw [bk_ne fun k => by rw [fr c k] at q; cases q]; exact q
theorem frame_end {P : Program} {w : World} {K : PySem.W.Frag} {mg : Str → Option Value} {base : Heap} {A : Around} {outer : List Env} {s : Shared} {H H' : Hp} {S : List Addr} {h' : Heap} (e0 : Env0 P w K mg base A outer s H) (hb : Lists H S) (un : Un (frs outer) [] (dl H S) H' s.heap h') (hk : HOk P w H' h') :
    (∀ a ∈ S, H' a = none) ∧ Un (frs outer) [] H (bk H' H S) s.heap h' ∧ HOk P w (bk H' H S) h' := by
  have nf : ∀ a ∈ S, a ∉ frs outer := fun a ha z => by
    have := e0.frf a z
    obtain ⟨xs, k⟩ := hb a ha
    rw [k] at this; cases this
  obtain ⟨fr, un'⟩ := un_bk un hb fun a ha => by
    obtain ⟨xs, k⟩ := hb a ha
    obtain ⟨_, its, n, _, ob⟩ := (show ObjOk P w H s.heap a (.lst xs) from e0.hok a _ k)
    exact ⟨_, ob⟩
  refine ⟨fr, un', hok_bk hk fr fun a ha o e => ?_⟩
  obtain ⟨xs, k⟩ := hb a ha
  rw [k] at e
  cases e
  obtain ⟨zl, its, n, rv, ob⟩ := (show ObjOk P w H s.heap a (.lst xs) from e0.hok a _ k)
  exact ⟨zl, its, n, rv, un.keep a _ ob (dl_at ha) (nf a ha) (by simp)⟩
theorem FnOk.frame {P : Program} {w : World} {K : PySem.W.Frag} {mg : Str → Option Value} {base : Heap} {k : Nat} {f : Addr} {fd : FuncData} {ps : List Str} {sp : Sp} (F : FnOk P w K mg base CX0 k f fd ps sp) : FnOk P w K mg base CX0 k f fd ps (framed sp) := by
  refine ⟨fun vs H Q E ⟨S, _, h⟩ => F.len _ _ _ _ h, fun A outer s H args us vs Q E hr e0 bd vl h => ?_⟩
  obtain ⟨S, hb, h⟩ := h
  have r := F.run A outer s (dl H S) args us vs _ _ hr (env_dl e0 hb) bd vl h
  refine PySem.codeAny_mono r fun R s' q => ?_
  unfold CR at q ⊢
  split at q
  · obtain ⟨v, H', os, ag, un, hk, rl, qq⟩ := q
    obtain ⟨fr, un', hk'⟩ := frame_end e0 hb un hk
    exact ⟨v, _, os, ag, un', hk', rl, qq fr⟩
  · exact q
  · exact q.elim
end Hr

set_option Elab.async false
set_option linter.all false
set_option maxRecDepth 100000
set_option maxHeartbeats 4000000
namespace Hr
open PySem PySem.Spec PyProof.Rows L2
/-! ### a module's constant, a call by keywords alone, a text repeated -/
def Gv (mg : Str → Option Value) (x : Str) (v : V) : Prop := ∃ u, mg x = some u ∧ RelV v u
theorem pe_gv {X : Cx} {x : Str} {pos : Pos} {v : V} (hg : Gl X x) (h : Gv X.mg x v) (hd : (x == ("__debug__" : Str)) = false := by decide) : PE X (.Name x pos) (tC v) := by
  obtain ⟨u, hm, r⟩ := h
  exact pe_glob hg hm r hd
/-- all parameters by their names, in their order -/
structure KwB (fd : FuncData) (ps ks : List Str) : Prop where
  to : ∀ (s : Shared) (us : List Value), us.length = ps.length → BindsTo s fd ⟨[], ks.zip us⟩ (ps.zip us)
def tKw (sp : Sp) (E : XK) (tk : TA) : TE := fun σ H Q => tk σ H fun vs H1 => sp vs H1 Q E
section
variable {X : Cx} {CX : CXT} {k : Nat} {f : Addr} {fd : FuncData} {ps ks : List Str} {sp : Sp} {E : XK} {x : Str} {p pos : Pos} {kws : List Keyword} {tk : TA}
theorem pe_kw (F : FnOk X.prog X.w X.K X.mg X.base CX k f fd ps sp) (hr : Room k X.A) (hg : Gl X x) (hm : X.mg x = some (.ref f)) (hk : PySem.W.keepIn X.K (.ref f) = true) (hb : KwB fd ps ks) (hx : Passes CX X E) (hkw : PK X kws tk)
    (hall : (backToKw pos (keywordEach kws X.env)).all (·.1.isSome) = true := by rfl) (hks : (backToKw pos (keywordEach kws X.env)).filterMap (·.1) = ks := by rfl) (hdb : (x == ("__debug__" : Str)) = false := by decide)
    (hpl : ((backTo pos (starEach [] X.env)).any (·.1) || (backToKw pos (keywordEach kws X.env)).any (·.1.isNone)) = false := by rfl) :
    PE X (.Call (.Name x p) [] kws pos) (tKw sp E tk) := by
  refine ⟨fun pins s σ H Q I h => ?_⟩
  refine wpAny_Call_Name_kw (ld_glob I hg hm ?_ hdb)
  refine PySem.W.callWith_KW0 (h₀ := X.base) I.ok.mod.kin hk hall ?_ hpl
  refine thn (hkw.run pos pins s σ H _ I h) fun us s1 ⟨vs, H1, I1, r, q⟩ => ⟨I1.kIn, ?_⟩
  rw [hks]
  have hl : us.length = ps.length := by rw [← r.length]; exact F.len _ _ _ _ q
  refine wpAny_call (codeAny_mono (F.run X.A X.stack s1 H1 ⟨[], ks.zip us⟩ us vs Q E hr I1.env0 (hb.to s1 us hl) r q) fun r s' hq => ?_)
  cases r with
  | error e => exact hx pins σ H1 s1 e s' I1 hq
  | ok fl =>
    cases fl with
    | ret u => exact I1.after hq
    | next => exact False.elim hq
    | brk => exact False.elim hq
    | cont => exact False.elim hq
def rRepS : R2 := fun x y H Q => ∃ z i, x = .str z ∧ y = .int i ∧ z.length ≤ 16 ∧ 0 ≤ i ∧ i ≤ 1048576 ∧ Q (.str (Txt.mul z i)) H
theorem op_repS : OpR X (binaryOp .Mult) rRepS := by
  intro pins s σ H x y v u Q I rx ry h
  obtain ⟨z, i, rfl, rfl, hz, h0, h1, q⟩ := h
  obtain ⟨t, rfl⟩ := rx
  obtain ⟨t', rfl⟩ := ry
  exact PySem.W.KXi.mul rfl hz (by omega) (by omega) fun t2 k _ _ => ⟨.str (Txt.mul z i), H, I.tok _, ⟨_, rfl⟩, q⟩
end
theorem kb_of {K : PySem.W.Frag} {x qual : Str} {st : Stmt} {f : Addr} {fd : FuncData} {ps ks : List Str} (F : Fun K x qual st f fd)
    (h : ∀ (kV doc pm : Value) (an : Option Addr) (cdv ct : Value) (us : List Value), us.length = ps.length → bindArgs (PySem.W.fnOf x qual (defArgs st) (defBody st) (defScope st) .none kV doc pm an cdv ct) ⟨[], ks.zip us⟩ = pure (ps.zip us)) : KwB fd ps ks := by
  obtain ⟨oc, od, kV, doc, pm, an, cdv, ct, osl, rfl, lk, hcd⟩ := F.ex
  exact ⟨fun s us hl => .of_eq (h kV doc pm an cdv ct us hl)⟩
/-! ### the bag that a script is drawn from: at b, its ints at l -/
def Bag (H : Hp) (b l : Addr) : Prop := ∃ (ns : List Int) (i g s : Int), H b = some (.lst [.ref l, .int i, .int g, .int s]) ∧ H l = some (.lst (ns.map V.int)) ∧ ns.length ≤ 63 ∧ 0 ≤ i ∧ 0 ≤ g ∧ 0 ≤ s ∧ s < 2147483647
theorem Bag.tracked {H : Hp} {b l : Addr} (h : Bag H b l) : ∃ xs, H b = some (.lst xs) := by
  obtain ⟨ns, i, g, s, h, _⟩ := h
  exact ⟨_, h⟩
theorem Bag.ne {H : Hp} {b l : Addr} (h : Bag H b l) : l ≠ b := by
  obtain ⟨ns, i, g, s, h1, h2, _⟩ := h
  refine ne_of h2 h1 fun e => ?_
  cases ns with
  | nil => cases e
  | cons n r => cases (List.cons.inj (HO.lst.inj e)).1
theorem Bag.ne_new {H : Hp} {b l p : Addr} (h : Bag H b l) (hp : H p = none) : p ≠ b := by
  obtain ⟨xs, e⟩ := h.tracked
  exact (ne_of_none e hp).symm
theorem Bag.ne_newl {H : Hp} {b l p : Addr} (h : Bag H b l) (hp : H p = none) : p ≠ l := by
  obtain ⟨ns, i, g, s, h1, h2, _⟩ := h
  exact (ne_of_none h2 hp).symm
theorem Bag.of {H H' : Hp} {b l : Addr} (h : Bag H b l) (h1 : H' b = H b) (h2 : H' l = H l) : Bag H' b l := by
  obtain ⟨ns, i, g, t, hb, hl, r⟩ := h
  exact ⟨ns, i, g, t, by rw [h1]; exact hb, by rw [h2]; exact hl, r⟩
/-- a step: all but the bag is kept, the bag is a bag -/
structure Bx (b l : Addr) (H H' : Hp) : Prop where
  bag : Bag H' b l
  keep : ∀ a o, a ≠ b → H a = some o → H' a = some o
theorem Bx.refl {b l : Addr} {H : Hp} (h : Bag H b l) : Bx b l H H := ⟨h, fun _ _ _ e => e⟩
theorem Bx.trans {b l : Addr} {H H1 H2 : Hp} (x : Bx b l H H1) (y : Bx b l H1 H2) : Bx b l H H2 := ⟨y.bag, fun a o n e => y.keep a o n (x.keep a o n e)⟩
theorem Bx.new {b l p : Addr} {H : Hp} {o : HO} (h : Bag H b l) (hp : H p = none) : Bx b l H (upd H p o) :=
  ⟨h.of (upd_ne (h.ne_new hp).symm) (upd_ne (h.ne_newl hp).symm), fun a u _ e => by rw [upd_ne (ne_of_none e hp)]; exact e⟩
theorem Bx.bagstep {b l : Addr} {H : Hp} {xs : List V} (h : Bag (upd H b (.lst xs)) b l) : Bx b l H (upd H b (.lst xs)) := ⟨h, fun a o n e => by rw [upd_ne n]; exact e⟩
theorem Bx.same {b l : Addr} {H H' : Hp} {S : List Addr} (x : Bx b l H H') (hb : b ∈ S) : Same (dl H S) (dl H' S) := fun a o e => by
  obtain ⟨h1, h2⟩ := dl_some e
  rw [dl_ne h1]
  exact x.keep a o (fun z => h1 (by rw [z]; exact hb)) h2
theorem Bx.free {b l p : Addr} {H H' : Hp} (x : Bx b l H H') (h : H' p = none) : H p = none := by
  cases q : H p with
  | none => rfl
  | some o =>
    rw [x.keep p o (x.bag.ne_new h) q] at h
    cases h
/-- behind a framed call -/
theorem Bx.back {b l : Addr} {H H' : Hp} {S : List Addr} (h : Bag H b l) (hb : b ∈ S) (s : Same (dl H S) H') : Bx b l H (bk H' H S) := by
  have sm := same_bk (H := H) s
  obtain ⟨ns, i, g, t, h1, h2, r⟩ := h
  exact ⟨⟨ns, i, g, t, sm _ _ h1, sm _ _ h2, r⟩, fun a o _ e => sm a o e⟩
theorem Bag.lists {H : Hp} {b l : Addr} (h : Bag H b l) : Lists H [b] := fun a ha => by
  rw [List.mem_singleton.mp ha]
  exact h.tracked
def sp_bag (K : PySem.W.Frag) : Sp := fun vs H Q _ => ∃ (a : Addr) (ns : List Int), vs = [.ref a] ∧ SqL K H a (ns.map V.int) ∧ ns.length ≤ 63 ∧ ∀ b l H', Bag H' b l → H b = none → Same H H' → Q (.ref b) H'
def sp_pull : Sp := fun vs H Q _ => ∃ (b l : Addr) (n : Int), vs = [.ref b, .int n] ∧ Bag H b l ∧ 1 ≤ n ∧ n < 1073741824 ∧ ∀ (d : Int) (H' : Hp), 0 ≤ d → d < n → Bx b l H H' → Q (.int d) H'
/-- _law_of(bag, text) -/
def sp_ofS : Sp := fun vs H Q _ => ∃ (b l : Addr) (z : Str), vs = [.ref b, .str z] ∧ Bag H b l ∧ 1 ≤ z.length ∧ z.length ≤ 100000 ∧ ∀ (c : Nat) (H' : Hp), c ∈ z.cps.toList → Bx b l H H' → Q (.str ⟨#[c]⟩) H'
/-- _law_of(bag, list or tuple) -/
def sp_ofL (K : PySem.W.Frag) : Sp := fun vs H Q _ => ∃ (b l a : Addr) (xs : List V), vs = [.ref b, .ref a] ∧ Bag H b l ∧ (∀ H', Bx b l H H' → SqL K H' a xs ∨ SqT K H' a xs) ∧ 1 ≤ xs.length ∧ xs.length ≤ 100000 ∧ ∀ (x : V) (H' : Hp), x ∈ xs → Bx b l H H' → Q x H'
/-! ### data of one depth -/
mutual
def deep : Nat → PyData → Bool
  | 0, _ => false
  | n + 1, .list ds => decide (ds.length < 50000) && deepAll n ds
  | n + 1, .tuple ds => decide (ds.length < 50000) && deepAll n ds
  | _ + 1, .dict _ => false
  | _ + 1, .str s => PySem.PyData.strOk s
  | _ + 1, _ => true
def deepAll : Nat → List PyData → Bool
  | _, [] => true
  | n, d :: ds => deep n d && deepAll n ds
end
theorem deep_list {n : Nat} {ds : List PyData} (h : deep (n + 1) (.list ds) = true) : ds.length < 50000 ∧ deepAll n ds = true := by
  unfold deep at h
  have := Bool.and_eq_true_iff.mp h
  exact ⟨of_decide_eq_true this.1, this.2⟩
theorem deep_tuple {n : Nat} {ds : List PyData} (h : deep (n + 1) (.tuple ds) = true) : ds.length < 50000 ∧ deepAll n ds = true := by
  unfold deep at h
  have := Bool.and_eq_true_iff.mp h
  exact ⟨of_decide_eq_true this.1, this.2⟩
theorem deep_zero {d : PyData} : deep 0 d = false := by unfold deep; rfl
theorem deep_cases (d : PyData) : (∃ ds, d = .list ds) ∨ (∃ ds, d = .tuple ds) ∨ (∃ ds, d = .dict ds) ∨ d = .none ∨ (∃ b, d = .bool b) ∨ (∃ i, d = .int i) ∨ (∃ x, d = .str x) := by
  cases d <;> simp
/-! ### isinstance of data -/
def tyN : PyData → String
  | .none => "NoneType"
  | .bool _ => "bool"
  | .int _ => "int"
  | .str _ => "str"
  | .list _ => "list"
  | .tuple _ => "tuple"
  | .dict _ => "dict"
theorem ty_of {K : PySem.W.Frag} {H : Hp} {x : V} {d : PyData} (h : Dp K H x d) : TyX K H x (.type (tyN d)) := by
  cases h with
  | non => exact .base .non
  | bl b => exact .base (.bl b)
  | int i => exact .base (.int i)
  | str x => exact .base (.str x)
  | lst h t =>
    rcases h with (h | ⟨o, h⟩) | ⟨o, its, n, h1, h2, _⟩
    · exact .base (.lst h)
    · exact .base (.frz h)
    · exact .kList h1 h2
  | tup h t =>
    rcases h with (h | ⟨o, h⟩) | ⟨o, its, n, h1, h2, _⟩
    · exact .base (.tup h)
    · exact .fTuple h
    · exact .kTuple h1 h2
theorem isi {K : PySem.W.Frag} {H : Hp} {x : V} {d : PyData} {n : String} {r : Bool} {Q : VK} (h : Dp K H x d) (e : kitB (tyN d) n = some r) (q : Q (.bl r) H) : rIsi K [x, .ty n] H Q := ⟨x, .ty n, _, _, r, rfl, .ty n, ty_of h, kit_ty e, q⟩
theorem kit_NoneType_bool : kitB "NoneType" "bool" = some false := by decide +kernel
theorem kit_NoneType_int : kitB "NoneType" "int" = some false := by decide +kernel
theorem kit_NoneType_str : kitB "NoneType" "str" = some false := by decide +kernel
theorem kit_NoneType_list : kitB "NoneType" "list" = some false := by decide +kernel
theorem kit_NoneType_tuple : kitB "NoneType" "tuple" = some false := by decide +kernel
theorem kit_bool_bool : kitB "bool" "bool" = some true := by decide +kernel
theorem kit_bool_int : kitB "bool" "int" = some true := by decide +kernel
theorem kit_bool_str : kitB "bool" "str" = some false := by decide +kernel
theorem kit_bool_list : kitB "bool" "list" = some false := by decide +kernel
theorem kit_bool_tuple : kitB "bool" "tuple" = some false := by decide +kernel
theorem kit_int_bool : kitB "int" "bool" = some false := by decide +kernel
theorem kit_int_int : kitB "int" "int" = some true := by decide +kernel
theorem kit_int_str : kitB "int" "str" = some false := by decide +kernel
theorem kit_int_list : kitB "int" "list" = some false := by decide +kernel
theorem kit_int_tuple : kitB "int" "tuple" = some false := by decide +kernel
theorem kit_str_bool : kitB "str" "bool" = some false := by decide +kernel
theorem kit_str_int : kitB "str" "int" = some false := by decide +kernel
theorem kit_str_str : kitB "str" "str" = some true := by decide +kernel
theorem kit_str_list : kitB "str" "list" = some false := by decide +kernel
theorem kit_str_tuple : kitB "str" "tuple" = some false := by decide +kernel
theorem kit_list_bool : kitB "list" "bool" = some false := by decide +kernel
theorem kit_list_int : kitB "list" "int" = some false := by decide +kernel
theorem kit_list_str : kitB "list" "str" = some false := by decide +kernel
theorem kit_list_list : kitB "list" "list" = some true := by decide +kernel
theorem kit_list_tuple : kitB "list" "tuple" = some false := by decide +kernel
theorem kit_tuple_bool : kitB "tuple" "bool" = some false := by decide +kernel
theorem kit_tuple_int : kitB "tuple" "int" = some false := by decide +kernel
theorem kit_tuple_str : kitB "tuple" "str" = some false := by decide +kernel
theorem kit_tuple_list : kitB "tuple" "list" = some false := by decide +kernel
theorem kit_tuple_tuple : kitB "tuple" "tuple" = some true := by decide +kernel
theorem ifT {c : Prop} [Decidable c] {A B : Prop} (hc : c) (h : A) : if decide c = true then A else B := by
  rw [decide_eq_true hc, if_pos rfl]
  exact h
theorem ifF {c : Prop} [Decidable c] {A B : Prop} (hc : ¬ c) (h : B) : if decide c = true then A else B := by
  rw [decide_eq_false hc, if_neg Bool.false_ne_true]
  exact h
theorem dpa_len {K : PySem.W.Frag} {H : Hp} : ∀ {vs : List V} {ds : List PyData}, DpAll K H vs ds → vs.length = ds.length
  | _, _, .nil => rfl
  | _, _, .cons _ t => by rw [List.length_cons, List.length_cons, dpa_len t]
theorem dpa_get {K : PySem.W.Frag} {H : Hp} : ∀ {vs : List V} {ds : List PyData} {i : Nat} {v : V}, DpAll K H vs ds → vs[i]? = some v → ∃ d, ds[i]? = some d ∧ Dp K H v d
  | _, _, _, _, .nil, e => by simp at e
  | _, _, 0, _, .cons h _, e => by
    simp at e
    subst e
    exact ⟨_, rfl, h⟩
  | _, _, i + 1, v, .cons _ t, e => by
    obtain ⟨d, h1, h2⟩ := dpa_get (i := i) (v := v) t (by simpa using e)
    exact ⟨d, by simpa using h1, h2⟩
theorem deep_get : ∀ {n : Nat} {ds : List PyData} {i : Nat} {d : PyData}, deepAll n ds = true → ds[i]? = some d → deep n d = true
  | _, [], _, _, _, e => by simp at e
  | n, a :: r, 0, d, h, e => by
    simp at e
    subst e
    unfold deepAll at h
    exact (Bool.and_eq_true_iff.mp h).1
  | n, a :: r, i + 1, d, h, e => by
    unfold deepAll at h
    exact deep_get (i := i) (Bool.and_eq_true_iff.mp h).2 (by simpa using e)
theorem walk_zipT {K : PySem.W.Frag} {a b : Addr} {xs ys : List V} {n : Nat} (hx : xs.length = n) (hy : ys.length = n) : Walk (RZ.ItzT K a b) n (fun H => SqT K H a xs ∧ SqT K H b ys) (YPair (fun i => xs[i]?) (fun i => ys[i]?)) := by
  refine ⟨fun i _ hi q => ?_, fun _ q => ⟨xs, ys, q.1, q.2, by omega⟩, fun i H v H' _ q y => ?_⟩
  · have h1 : i < xs.length := by omega
    have h2 : i < ys.length := by omega
    exact ⟨xs, ys, xs[i], ys[i], q.1, q.2, by simp [h1], by simp [h2]⟩
  · obtain ⟨T, x, z, h1, h2, h3, h4, h5⟩ := y
    exact ⟨T, x, z, h1, h2, h3, h4 xs q.1, h5 ys q.2⟩
theorem all_true {n : Nat} : (((List.range n).map fun _ => V.bl true) = ((List.replicate n true).map V.bl)) ∧ (List.replicate n true).all id = true := by
  constructor
  · rw [List.map_const', List.map_replicate, List.length_range]
  · simp
/-- _law_same(x, y), x and y the same data: True -/
def sp_same (K : PySem.W.Frag) (n : Nat) : Sp := fun vs H Q _ => ∃ (x y : V) (d : PyData), vs = [x, y] ∧ Dp K H x d ∧ Dp K H y d ∧ deep n d = true ∧ ∀ H', Same H H' → Q (.bl true) H'
def sp_law (K : PySem.W.Frag) : Sp := fun vs H Q _ => ∃ (a : Addr) (ns : List Int), vs = [.ref a] ∧ SqL K H a (ns.map V.int) ∧ ns.length ≤ 63 ∧ ∀ H', Q (.bl true) H'
end Hr
namespace Hr
open PySem PySem.Spec PyProof.Rows L2
theorem yes {te : TE} {σ : L2.St} {H : Hp} {Qe : VK} {Z : Hp → Prop} (h : te σ H Qe) : tYes σ H (fun b H3 => if b = true then te σ H3 Qe else Z H3) := by
  show (if true = true then te σ H Qe else Z H)
  rw [if_pos rfl]
  exact h
theorem szl {n : Nat} (h : n ≤ 100000) : n ≤ sizeLine := Nat.le_trans h (by decide)
theorem szt {n : Nat} (h : n < 100000) : n < sizeLine := Nat.lt_of_lt_of_le h (by decide)
/-! ### comprehensions: what is made by the elements is told of the heap without the list that grows (and without S) -/
theorem lc_bag {J : It} {n : Nat} {G : Hp → Prop} {Y : Nat → Hp → V → Hp → Prop} (w : Walk J n G Y) {g : TG} {tt : TT} {te : TE} {vs : List Nat} {σ : L2.St} {H1 : Hp} {D b l : Addr} {Qd : Hp → Prop} (S : List Addr) (hS : b ∈ S) (hb : Bag H1 b l) (hD : H1 D = none) (P : V → Hp → Prop) (hP : ∀ y H H', Same H H' → P y H → P y H') (hG : ∀ H, Bx b l H1 H → G H) (hn : n < 100000)
    (hs : ∀ i x H H' (Qe : V → Hp → Prop) (Z : Hp → Prop), i < n → Bx b l H1 H → Same (dl H1 S) (dl H (D :: S)) → (∃ xs, H D = some (.lst xs)) → (∀ y H4, Bx b l H H4 → P y (dl H4 (D :: S)) → Qe y H4) → Y i H x H' → g x (wipe σ vs) H' fun σ2 H2 => wipe σ2 vs = wipe σ vs ∧ tt σ2 H2 fun bb H3 => if bb = true then te σ2 H3 Qe else Z H3)
    (hd : ∀ H ys, Bx b l H1 H → ys.length = n → H D = some (.lst ys) → (∀ y ∈ ys, P y (dl H (D :: S))) → Qd H) :
    ∃ W : Nat → Nat → Hp → Prop, (∃ m, W 0 m (upd H1 D (.lst []))) ∧ ∀ i m H, W i m H →
      (J.stop i H ∧ Qd H) ∨ (J.go i H ∧ ∃ Nx : Hp → Prop, (∀ H', Nx H' → ∃ m', m' < m ∧ W (i + 1) m' H') ∧ ∀ x H', J.yld i H x H' → g x (wipe σ vs) H' fun σ2 H2 => wipe σ2 vs = wipe σ vs ∧ tt σ2 H2 fun b H3 =>
        if b = true then te σ2 H3 fun y H4 => ∃ acc, H4 D = some (.lst acc) ∧ acc.length < sizeLine ∧ Nx (upd H4 D (.lst (acc ++ [y]))) else Nx H3) := by
  have nD : D ≠ b := hb.ne_new hD
  have nL : D ≠ l := hb.ne_newl hD
  refine lc_it w (fun i H => Bx b l H1 H ∧ ∃ ys, H D = some (.lst ys) ∧ ys.length = i ∧ ∀ y ∈ ys, P y (dl H (D :: S))) ⟨Bx.new hb hD, [], upd_same, rfl, fun _ h => nomatch h⟩ (fun i H _ h => hG H h.1) ?_ ?_
  · rintro i x H H' hi ⟨bx, ys, hy, hl, hp⟩ y
    refine hs i x H H' _ _ hi bx (fun a o e => ?_) ⟨ys, hy⟩ (fun y H4 b4 p4 => ⟨ys, b4.keep D _ nD hy, szt (by omega), ⟨b4.bag.of (upd_ne nD.symm) (upd_ne nL.symm), fun a o n e => ?_⟩, ys ++ [y], upd_same, by simp [hl], fun z hz => ?_⟩) y
    · obtain ⟨h1, h2⟩ := dl_some e
      rw [dl_ne (fun z => (List.mem_cons.mp z).elim (fun z => ne_of_none h2 hD z) h1)]
      exact bx.keep a o (fun z => h1 (by rw [z]; exact hS)) h2
    · rw [upd_ne (ne_of_none e hD)]
      exact b4.keep a o n (bx.keep a o n e)
    · rw [dl_upd List.mem_cons_self]
      rcases List.mem_append.mp hz with hz | hz
      · exact hP z _ _ (b4.same (List.mem_cons_of_mem _ hS)) (hp z hz)
      · rw [List.mem_singleton.mp hz]; exact p4
  · rintro H ⟨bx, ys, hy, hl, hp⟩
    exact hd H ys bx hl hy hp
/-- without a bag: the i-th element's value is known -/
theorem lc_val {J : It} {n : Nat} {G : Hp → Prop} {Y : Nat → Hp → V → Hp → Prop} (w : Walk J n G Y) {g : TG} {tt : TT} {te : TE} {vs : List Nat} {σ : L2.St} {H1 : Hp} {D : Addr} {Qd : Hp → Prop} (hD : H1 D = none) (f : Nat → V) (hG : ∀ H, Same H1 H → G H) (hn : n < 100000)
    (hs : ∀ i x H H' (Qe : V → Hp → Prop) (Z : Hp → Prop), i < n → Same H1 H → (∀ H4, Same H H4 → Qe (f i) H4) → Y i H x H' → g x (wipe σ vs) H' fun σ2 H2 => wipe σ2 vs = wipe σ vs ∧ tt σ2 H2 fun bb H3 => if bb = true then te σ2 H3 Qe else Z H3)
    (hd : ∀ H, Same H1 H → H D = some (.lst ((List.range n).map f)) → Qd H) :
    ∃ W : Nat → Nat → Hp → Prop, (∃ m, W 0 m (upd H1 D (.lst []))) ∧ ∀ i m H, W i m H →
      (J.stop i H ∧ Qd H) ∨ (J.go i H ∧ ∃ Nx : Hp → Prop, (∀ H', Nx H' → ∃ m', m' < m ∧ W (i + 1) m' H') ∧ ∀ x H', J.yld i H x H' → g x (wipe σ vs) H' fun σ2 H2 => wipe σ2 vs = wipe σ vs ∧ tt σ2 H2 fun b H3 =>
        if b = true then te σ2 H3 fun y H4 => ∃ acc, H4 D = some (.lst acc) ∧ acc.length < sizeLine ∧ Nx (upd H4 D (.lst (acc ++ [y]))) else Nx H3) := by
  refine lc_it w (fun i H => Same H1 H ∧ H D = some (.lst ((List.range i).map f))) ⟨same_new hD, upd_same⟩ (fun i H _ h => hG H h.1) ?_ ?_
  · rintro i x H H' hi ⟨sm, hy⟩ y
    refine hs i x H H' _ _ hi sm (fun H4 s4 => ⟨_, s4 _ _ hy, szt (by rw [List.length_map, List.length_range]; omega), fun a o e => ?_, ?_⟩) y
    · rw [upd_ne (ne_of_none e hD)]
      exact s4 _ _ (sm _ _ e)
    · rw [upd_same, List.range_succ, List.map_append]
      rfl
  · rintro H ⟨sm, hy⟩
    exact hd H sm hy
theorem Bx.ofSame {b l : Addr} {H H' : Hp} (h : Bag H b l) (s : Same H H') : Bx b l H H' := by
  obtain ⟨ns, i, g, t, h1, h2, r⟩ := h
  exact ⟨⟨ns, i, g, t, s _ _ h1, s _ _ h2, r⟩, fun a o _ e => s a o e⟩
theorem Bag.ofSame {b l : Addr} {H H' : Hp} (h : Bag H b l) (s : Same H H') : Bag H' b l := (Bx.ofSame h s).bag
theorem strs_of {ys : List V} (h : ∀ y ∈ ys, ∃ c : Nat, y = .str ⟨#[c]⟩) : ∃ ss : List Str, ys = ss.map V.str ∧ ss.length = ys.length ∧ ∀ s ∈ ss, s.length = 1 := by
  induction ys with
  | nil => exact ⟨[], rfl, rfl, fun _ h => nomatch h⟩
  | cons y r ih =>
    obtain ⟨c, rfl⟩ := h y List.mem_cons_self
    obtain ⟨ss, e, l, k⟩ := ih fun z hz => h z (List.mem_cons_of_mem _ hz)
    refine ⟨⟨#[c]⟩ :: ss, by rw [e]; rfl, by rw [List.length_cons, l, List.length_cons], fun s hs => ?_⟩
    rcases List.mem_cons.mp hs with rfl | hs
    · rfl
    · exact k s hs
theorem sum_ones : ∀ {ss : List Str}, (∀ s ∈ ss, s.length = 1) → (ss.map (·.length)).sum = ss.length
  | [], _ => rfl
  | s :: r, h => by
    rw [List.map_cons, List.sum_cons, h s List.mem_cons_self, sum_ones fun z hz => h z (List.mem_cons_of_mem _ hz), List.length_cons]
    omega
theorem dl_bls {K : PySem.W.Frag} {H : Hp} : ∀ (bs : List Bool), DpAll K H (bs.map V.bl) (bs.map PyData.bool)
  | [] => .nil
  | b :: r => .cons (.bl b) (dl_bls r)
end Hr

set_option Elab.async false
set_option linter.all false
set_option maxRecDepth 100000
set_option maxHeartbeats 4000000
namespace Hr
open PySem PySem.Spec PyProof.Rows L2
/-! ### texts as lists of codes -/
abbrev cl (z : Str) : List Nat := z.cps.toList
theorem cl_len (z : Str) : z.length = (cl z).length := rfl
theorem cl_app (x y : Str) : cl (x ++ y) = cl x ++ cl y := cps_toList_append x y
theorem cl_ext {x y : Str} (h : cl x = cl y) : x = y := ext_toList h
theorem cl_take (z : Str) {n : Int} (h : 0 ≤ n) : cl (cutS z none (some n)) = (cl z).take n.toNat := by
  obtain ⟨k, rfl⟩ : ∃ k : Nat, n = k := ⟨n.toNat, by omega⟩
  unfold cutS cl
  rw [HT.sIx_none, HT.sIx_nat, List.drop_zero, Nat.sub_zero, Int.toNat_natCast]
  show List.take _ _ = _
  have e : z.length = z.cps.toList.length := rfl
  rw [e]
  by_cases hk : k ≤ z.cps.toList.length
  · rw [Nat.min_eq_left hk]
  · rw [Nat.min_eq_right (by omega), List.take_of_length_le (Nat.le_refl _), List.take_of_length_le (by omega)]
theorem cl_drop (z : Str) {n : Int} (h : 0 ≤ n) : cl (cutS z (some n) none) = (cl z).drop n.toNat := by
  obtain ⟨k, rfl⟩ : ∃ k : Nat, n = k := ⟨n.toNat, by omega⟩
  unfold cutS cl
  rw [HT.sIx_none, HT.sIx_nat, Int.toNat_natCast]
  show List.take _ (List.drop _ _) = _
  have e : z.length = z.cps.toList.length := rfl
  rw [e]
  by_cases hk : k ≤ z.cps.toList.length
  · rw [Nat.min_eq_left hk]
    apply List.take_of_length_le
    rw [List.length_drop]
    omega
  · rw [Nat.min_eq_right (by omega), Nat.sub_self, List.take_zero, List.drop_of_length_le (by omega)]
theorem cl_join0 : ∀ (ss : List Str), cl (Txt.join "" ss) = (ss.map cl).flatten := fun ss => by
  show cl (Builtin.Str.glued "" ss) = _
  rw [StrLaws.glued_eq_join]
  induction ss with
  | nil => rfl
  | cons x r ih =>
    cases r with
    | nil => simp [Str.join]
    | cons y r2 =>
      show cl (x ++ ("" : Str) ++ Str.join "" (y :: r2)) = _
      rw [cl_app, cl_app, ih]
      simp [show cl ("" : Str) = [] from rfl]
theorem foldl_app (x : Array Nat) : ∀ (n : Nat) (a : Array Nat), ((List.replicate n x).foldl (· ++ ·) a).toList = a.toList ++ (List.replicate n x.toList).flatten
  | 0, a => by simp
  | n + 1, a => by
    rw [List.replicate_succ, List.foldl_cons, foldl_app x n, Array.toList_append, List.replicate_succ, List.flatten_cons, List.append_assoc]
theorem cl_mul (z : Str) {n : Int} (h : 0 ≤ n) : cl (Txt.mul z n) = (List.replicate n.toNat (cl z)).flatten := by
  unfold Txt.mul
  by_cases h1 : n < 1
  · have e : n = 0 := by omega
    subst e
    rfl
  · rw [if_neg h1]
    by_cases h2 : (n == 1 || z.length == 0) = true
    · rw [if_pos h2]
      rcases Bool.or_eq_true_iff.mp h2 with e | e
      · have e' : n = 1 := by simpa using e
        subst e'
        simp
      · have e' : cl z = [] := List.eq_nil_of_length_eq_zero (by rw [← cl_len]; simpa using e)
        show cl z = _
        rw [e', List.flatten_replicate_nil]
    · rw [if_neg h2]
      show ((List.replicate n.toNat z.cps).foldl (· ++ ·) #[]).toList = _
      rw [foldl_app]
      rfl
def isNm (s : Str) : Prop := 1 ≤ (cl s).length ∧ (cl s).length ≤ 8 ∧ ∀ c ∈ cl s, c ∈ cl "abcdefghijklmnopqrstuvwxyz"
def isVl (s : Str) : Prop := 1 ≤ (cl s).length ∧ (cl s).length ≤ 8 ∧ ∀ c ∈ cl s, c ∈ cl "abcdefghijklmnopqrstuvwxyz0123456789"
/-! ### tracked sets -/
def Tr (H : Hp) (S : List Addr) : Prop := ∀ a ∈ S, ∃ o, H a = some o
theorem Tr.fresh {H : Hp} {S : List Addr} {p : Addr} (t : Tr H S) (h : H p = none) : p ∉ S := fun z => by
  obtain ⟨o, e⟩ := t p z
  rw [h] at e
  cases e
theorem Tr.bx {b l : Addr} {H H' : Hp} {S : List Addr} (t : Tr H S) (x : Bx b l H H') : Tr H' S := fun a ha => by
  obtain ⟨o, e⟩ := t a ha
  by_cases z : a = b
  · rw [z]
    obtain ⟨xs, h⟩ := x.bag.tracked
    exact ⟨_, h⟩
  · exact ⟨o, x.keep a o z e⟩
theorem Tr.cons {H : Hp} {S : List Addr} {p : Addr} {o : HO} (t : Tr H S) (h : H p = some o) : Tr H (p :: S) := fun a ha => by
  rcases List.mem_cons.mp ha with rfl | ha
  · exact ⟨o, h⟩
  · exact t a ha
theorem Tr.one {H : Hp} {b l : Addr} (h : Bag H b l) : Tr H [b] := fun a ha => by
  rw [List.mem_singleton.mp ha]
  obtain ⟨xs, e⟩ := h.tracked
  exact ⟨_, e⟩
theorem Tr.same {H H' : Hp} {S : List Addr} (t : Tr H S) (s : Same H H') : Tr H' S := fun a ha => by
  obtain ⟨o, e⟩ := t a ha
  exact ⟨o, s a o e⟩
theorem dl_free {H : Hp} {S : List Addr} {p : Addr} (t : Tr H S) (h : H p = none) : dl H S p = none := by
  rw [dl_ne (t.fresh h)]
  exact h
/-- behind a new object -/
theorem dl_same_new {H : Hp} {S : List Addr} {p : Addr} {o : HO} (t : Tr H S) (h : H p = none) : Same (dl H S) (dl (upd H p o) S) := by
  rw [dl_new (t.fresh h)]
  exact same_new (dl_free t h)
theorem dl_upd_at {H : Hp} {S : List Addr} {p : Addr} {o : HO} (t : Tr H S) (h : H p = none) : dl (upd H p o) S p = some o := by
  rw [dl_ne (t.fresh h), upd_same]
/-! ### max with a default -/
def maxI : List Int → Int → Int
  | [], d => d
  | y :: ys, _ => PySem.W.maxOf y ys
def rMaxD (K : PySem.W.Frag) : List V → List V → Hp → VK → Prop := fun vs zs H Q => ∃ (a : Addr) (ns : List Int) (d : Int), vs = [.ref a] ∧ zs = [.int d] ∧ SqL K H a (ns.map V.int) ∧ Q (.int (maxI ns d)) H
theorem dpa_ints {K : PySem.W.Frag} {H : Hp} : ∀ (ns : List Int), DpAll K H (ns.map V.int) (ns.map PyData.int)
  | [] => .nil
  | n :: r => .cons (.int n) (dpa_ints r)
theorem cr_maxD {X : Cx} (hc : X.calm = true) (hu : X.A.units + 64 < cLine) : CallRK X (.builtin "max") [Str.ofString "default"] (rMaxD X.K) := by
  intro pins s σ H vs zs us ws Q I r rz h
  obtain ⟨a, ns, d, rfl, rfl, hs, q⟩ := h
  obtain rfl := Vals.ref1 r
  obtain ⟨w1, rfl, t, rfl⟩ := vals1 rz
  obtain ⟨its, rv, hl, _⟩ := I.list hs
  obtain ⟨as, ra⟩ := Dp.readsAll I (ns.map PyData.int) _ _ (dpa_ints ns) rv
  refine PySem.W.max_list_datum_default (α := Int) (xs := ns) (I.ok.hd hc) hl.isList ⟨as, ra⟩ (by show X.A.units + 1 + 0 < cLine; omega) (fun e h' tk k => ?_) fun y ys i v h' tk e hv hh k => ?_
  · subst e
    exact ⟨.int d, H, I.kept k, ⟨t, rfl⟩, q⟩
  · subst e
    obtain ⟨bs, rd⟩ := hh
    cases rd
    exact ⟨.int _, H, I.kept k, ⟨_, rfl⟩, q⟩
theorem bx_seq {K : PySem.W.Frag} {b l a : Addr} {H H' : Hp} {xs : List V} (x : Bx b l H H') (n : a ≠ b) (h : SqL K H a xs) : SqL K H' a xs := by
  rcases h with (h | ⟨o, h⟩) | h
  · exact .inl (.inl (x.keep _ _ n h))
  · exact .inl (.inr ⟨o, x.keep _ _ n h⟩)
  · exact .inr h
theorem bx_seqT {K : PySem.W.Frag} {b l a : Addr} {H H' : Hp} {xs : List V} (x : Bx b l H H') (n : a ≠ b) (h : SqT K H a xs) : SqT K H' a xs := by
  rcases h with (h | ⟨o, h⟩) | h
  · exact .inl (.inl (x.keep _ _ n h))
  · exact .inl (.inr ⟨o, x.keep _ _ n h⟩)
  · exact .inr h
theorem stem_of {al : List Nat} {ys : List V} (h : ∀ y ∈ ys, ∃ c : Nat, y = .str ⟨#[c]⟩ ∧ c ∈ al) : ∃ ss : List Str, ys = ss.map V.str ∧ ss.length = ys.length ∧ (ss.map (·.length)).sum = ys.length ∧ (cl (Txt.join "" ss)).length = ys.length ∧ ∀ c ∈ cl (Txt.join "" ss), c ∈ al := by
  have k : ∃ cs : List Nat, ys = cs.map (fun c => V.str ⟨#[c]⟩) ∧ ∀ c ∈ cs, c ∈ al := by
    induction ys with
    | nil => exact ⟨[], rfl, fun _ h => nomatch h⟩
    | cons y r ih =>
      obtain ⟨c, rfl, hc⟩ := h y List.mem_cons_self
      obtain ⟨cs, e, k⟩ := ih fun z hz => h z (List.mem_cons_of_mem _ hz)
      refine ⟨c :: cs, by rw [e]; rfl, fun d hd => ?_⟩
      rcases List.mem_cons.mp hd with rfl | hd
      · exact hc
      · exact k d hd
  obtain ⟨cs, rfl, hc⟩ := k
  have e : cl (Txt.join "" (cs.map fun c => (⟨#[c]⟩ : Str))) = cs := by
    rw [cl_join0, List.map_map]
    clear hc h
    induction cs with
    | nil => rfl
    | cons c r ih =>
      rw [List.map_cons, List.flatten_cons, ih]
      rfl
  refine ⟨cs.map fun c => (⟨#[c]⟩ : Str), by rw [List.map_map]; rfl, by simp, ?_, by rw [e]; simp, by rw [e]; exact hc⟩
  clear e hc h
  induction cs with
  | nil => rfl
  | cons c r ih =>
    rw [List.map_cons, List.map_cons, List.sum_cons, ih]
    simp [Str.length]
    omega
theorem nodup_of_key {α β : Type} {ss : List α} (key : Nat → β) (f : α → β) (h : ∀ j s, ss[j]? = some s → f s = key j) (inj : ∀ i j, i < j → j < ss.length → key i ≠ key j) : ss.Nodup := by
  refine List.pairwise_iff_getElem.mpr fun i j hi hj lt e => ?_
  have h1 := h i _ (List.getElem?_eq_getElem hi)
  have h2 := h j _ (List.getElem?_eq_getElem hj)
  rw [e, h2] at h1
  exact inj i j lt hj h1.symm
theorem let_at : ∀ m : Nat, m < 26 → (cl "abcdefghijklmnopqrstuvwxyz")[m]? = some (97 + m) := by decide
theorem sgn_at : ∀ m : Nat, m < 36 → (cl "abcdefghijklmnopqrstuvwxyz0123456789")[m]? = some (if m < 26 then 97 + m else 22 + m) := by decide
theorem at_code {z : Str} {i : Int} {c : Nat} (h0 : 0 ≤ i) (h : (cl z)[i.toNat]? = some c) : atI z.cps.toList i = some c := by
  have q : atI z.cps.toList ((i.toNat : Nat) : Int) = some c := atI_nat h
  rwa [show ((i.toNat : Nat) : Int) = i by omega] at q
/-- a sign put into a word at a place -/
theorem put_sign {z : Str} {c : Nat} {i : Int} (h0 : 0 ≤ i) (h1 : i ≤ ((cl z).length : Int)) :
    cl (cutS z none (some i) ++ ⟨#[c]⟩ ++ cutS z (some i) none) = (cl z).take i.toNat ++ c :: (cl z).drop i.toNat := by
  rw [cl_app, cl_app, cl_take z h0, cl_drop z h0, List.append_assoc]
  rfl
theorem put_at {l : List Nat} {c i : Nat} (h : i ≤ l.length) : (l.take i ++ c :: l.drop i)[i]? = some c := by
  rw [List.getElem?_append_right (by rw [List.length_take]; omega), List.length_take, Nat.min_eq_left h, Nat.sub_self]
  rfl
theorem put_len {l : List Nat} {c i : Nat} (h : i ≤ l.length) : (l.take i ++ c :: l.drop i).length = l.length + 1 := by
  rw [List.length_append, List.length_cons, List.length_take, List.length_drop]
  omega
theorem put_mem {l al : List Nat} {c i : Nat} (hc : c ∈ al) (h : ∀ x ∈ l, x ∈ al) : ∀ x ∈ l.take i ++ c :: l.drop i, x ∈ al := fun x hx => by
  rcases List.mem_append.mp hx with hx | hx
  · exact h x (List.mem_of_mem_take hx)
  · rcases List.mem_cons.mp hx with rfl | hx
    · exact hc
    · exact h x (List.mem_of_mem_drop hx)
/-! ### comprehensions, item by item -/
theorem lc_bagI {J : It} {n : Nat} {G : Hp → Prop} {Y : Nat → Hp → V → Hp → Prop} (w : Walk J n G Y) {g : TG} {tt : TT} {te : TE} {vs : List Nat} {σ : L2.St} {H1 : Hp} {D b l : Addr} {Qd : Hp → Prop} (S : List Addr) (hS : b ∈ S) (hb : Bag H1 b l) (hD : H1 D = none) (P : Nat → V → Hp → Prop) (hP : ∀ i y H H', Same H H' → P i y H → P i y H') (hG : ∀ H, Bx b l H1 H → G H) (hn : n < 100000)
    (hs : ∀ i x H H' (Qe : V → Hp → Prop) (Z : Hp → Prop), i < n → Bx b l H1 H → Same (dl H1 S) (dl H (D :: S)) → (∃ xs, H D = some (.lst xs)) → (∀ y H4, Bx b l H H4 → P i y (dl H4 (D :: S)) → Qe y H4) → Y i H x H' → g x (wipe σ vs) H' fun σ2 H2 => wipe σ2 vs = wipe σ vs ∧ tt σ2 H2 fun bb H3 => if bb = true then te σ2 H3 Qe else Z H3)
    (hd : ∀ H ys, Bx b l H1 H → ys.length = n → H D = some (.lst ys) → (∀ (i : Nat) y, ys[i]? = some y → P i y (dl H (D :: S))) → Qd H) :
    ∃ W : Nat → Nat → Hp → Prop, (∃ m, W 0 m (upd H1 D (.lst []))) ∧ ∀ i m H, W i m H →
      (J.stop i H ∧ Qd H) ∨ (J.go i H ∧ ∃ Nx : Hp → Prop, (∀ H', Nx H' → ∃ m', m' < m ∧ W (i + 1) m' H') ∧ ∀ x H', J.yld i H x H' → g x (wipe σ vs) H' fun σ2 H2 => wipe σ2 vs = wipe σ vs ∧ tt σ2 H2 fun b H3 =>
        if b = true then te σ2 H3 fun y H4 => ∃ acc, H4 D = some (.lst acc) ∧ acc.length < sizeLine ∧ Nx (upd H4 D (.lst (acc ++ [y]))) else Nx H3) := by
  have nD : D ≠ b := hb.ne_new hD
  have nL : D ≠ l := hb.ne_newl hD
  refine lc_it w (fun i H => Bx b l H1 H ∧ ∃ ys, H D = some (.lst ys) ∧ ys.length = i ∧ ∀ (i : Nat) y, ys[i]? = some y → P i y (dl H (D :: S))) ⟨Bx.new hb hD, [], upd_same, rfl, fun _ _ h => by simp at h⟩ (fun i H _ h => hG H h.1) ?_ ?_
  · rintro i x H H' hi ⟨bx, ys, hy, hl, hp⟩ y
    refine hs i x H H' _ _ hi bx (fun a o e => ?_) ⟨ys, hy⟩ (fun y H4 b4 p4 => ⟨ys, b4.keep D _ nD hy, szt (by omega), ⟨b4.bag.of (upd_ne nD.symm) (upd_ne nL.symm), fun a o n e => ?_⟩, ys ++ [y], upd_same, by simp [hl], fun j z hz => ?_⟩) y
    · obtain ⟨h1, h2⟩ := dl_some e
      rw [dl_ne (fun z => (List.mem_cons.mp z).elim (fun z => ne_of_none h2 hD z) h1)]
      exact bx.keep a o (fun z => h1 (by rw [z]; exact hS)) h2
    · rw [upd_ne (ne_of_none e hD)]
      exact b4.keep a o n (bx.keep a o n e)
    · rw [dl_upd List.mem_cons_self]
      by_cases hj : j < ys.length
      · rw [List.getElem?_append_left hj] at hz
        exact hP j z _ _ (b4.same (List.mem_cons_of_mem _ hS)) (hp j z hz)
      · have ej : j = i := by
          have := (List.getElem?_eq_some_iff.mp hz).1
          rw [List.length_append, List.length_singleton] at this
          omega
        subst ej
        rw [List.getElem?_append_right (by omega), hl, Nat.sub_self] at hz
        cases hz
        exact p4
  · rintro H ⟨bx, ys, hy, hl, hp⟩
    exact hd H ys bx hl hy hp
theorem lc_filt {J : It} {G : Hp → Prop} {xs : List V} (w : Walk J xs.length G (YAt xs)) {g : TG} {tt : TT} {te : TE} {vs : List Nat} {σ : L2.St} {H1 : Hp} {D : Addr} {Qd : Hp → Prop} (hD : H1 D = none) (f : V → V) (p : V → Bool) (hG : ∀ H, Same H1 H → G H) (hn : xs.length < 100000)
    (hs : ∀ (i : Nat) x H (R : V → Hp → Prop) (Z : Hp → Prop), xs[i]? = some x → Same H1 H → (p x = true → ∀ H4, Same H H4 → R (f x) H4) → (p x = false → ∀ H4, Same H H4 → Z H4) → g x (wipe σ vs) H fun σ2 H2 => wipe σ2 vs = wipe σ vs ∧ tt σ2 H2 fun b H3 => if b = true then te σ2 H3 R else Z H3)
    (hd : ∀ H, Same H1 H → H D = some (.lst ((xs.filter p).map f)) → Qd H) :
    ∃ W : Nat → Nat → Hp → Prop, (∃ m, W 0 m (upd H1 D (.lst []))) ∧ ∀ i m H, W i m H →
      (J.stop i H ∧ Qd H) ∨ (J.go i H ∧ ∃ Nx : Hp → Prop, (∀ H', Nx H' → ∃ m', m' < m ∧ W (i + 1) m' H') ∧ ∀ x H', J.yld i H x H' → g x (wipe σ vs) H' fun σ2 H2 => wipe σ2 vs = wipe σ vs ∧ tt σ2 H2 fun b H3 =>
        if b = true then te σ2 H3 fun y H4 => ∃ acc, H4 D = some (.lst acc) ∧ acc.length < sizeLine ∧ Nx (upd H4 D (.lst (acc ++ [y]))) else Nx H3) := by
  refine lc_it w (fun i H => Same H1 H ∧ H D = some (.lst (((xs.take i).filter p).map f))) ⟨same_new hD, by rw [upd_same]; rfl⟩ (fun i H _ h => hG H h.1) ?_ ?_
  · rintro i x H H' hi ⟨sm, hy⟩ ⟨rfl, hx⟩
    have et : xs.take (i + 1) = xs.take i ++ [x] := by rw [List.take_add_one, hx]; rfl
    refine hs i x H' _ _ hx sm (fun hp H4 s4 => ⟨_, s4 _ _ hy, szt ?_, fun a o e => ?_, ?_⟩) fun hp H4 s4 => ⟨sm.trans s4, ?_⟩
    · rw [List.length_map]
      refine Nat.lt_of_le_of_lt (List.length_filter_le _ _) ?_
      rw [List.length_take]
      omega
    · rw [upd_ne (ne_of_none e hD)]
      exact s4 _ _ (sm _ _ e)
    · rw [upd_same, et, List.filter_append, List.map_append, List.filter_cons, hp]
      rfl
    · rw [s4 _ _ hy, et, List.filter_append, List.filter_cons, hp]
      simp
  · rintro H ⟨sm, hy⟩
    rw [List.take_length] at hy
    exact hd H sm hy
theorem eqv_nil (ds : List PyData) : PyData.eqv (.list ds) (.list []) = ds.isEmpty := by
  cases ds <;> simp [PyData.eqv, PyData.eqvAll]
/-! ### fields as data -/
abbrev Fld := Str × List Str
def fldD (f : Fld) : PyData := .tuple [.str f.1, .list (f.2.map PyData.str)]
def fldsD (fs : List Fld) : PyData := .list (fs.map fldD)
theorem dpa_strs {K : PySem.W.Frag} {H : Hp} : ∀ (ss : List Str), DpAll K H (ss.map V.str) (ss.map PyData.str)
  | [] => .nil
  | s :: r => .cons (.str s) (dpa_strs r)
theorem dpa_of {K : PySem.W.Frag} {H : Hp} : ∀ {vs : List V} {ds : List PyData}, vs.length = ds.length → (∀ (i : Nat) v d, vs[i]? = some v → ds[i]? = some d → Dp K H v d) → DpAll K H vs ds
  | [], [], _, _ => .nil
  | v :: vs, d :: ds, hl, h => .cons (h 0 v d rfl rfl) (dpa_of (by simpa using hl) fun i x y h1 h2 => h (i + 1) x y h1 h2)
  | [], _ :: _, hl, _ => by simp at hl
  | _ :: _, [], hl, _ => by simp at hl
/-! ### the rules that speak of the written part, by its own letter -/
def rLenSeq (K : PySem.W.Frag) : List V → Hp → VK → Prop := fun xs H Q => ∃ p ys, xs = [.ref p] ∧ (SqL K H p ys ∨ SqT K H p ys) ∧ Q (.int ys.length) H
def rListOf (K : PySem.W.Frag) : List V → Hp → VK → Prop := fun xs H Q => ∃ p ys, xs = [.ref p] ∧ (SqL K H p ys ∨ SqT K H p ys) ∧ ∀ l, H l = none → Q (.ref l) (upd H l (.lst ys))
def rTupleOf (K : PySem.W.Frag) : List V → Hp → VK → Prop := fun xs H Q => ∃ p ys, xs = [.ref p] ∧ ((SqL K H p ys ∧ ∀ l, H l = none → Q (.ref l) (upd H l (.tup ys))) ∨ (SqT K H p ys ∧ Q (.ref p) H))
section
variable {X : Cx} {K : PySem.W.Frag} {tg l : Expr} {tl : TE}
theorem ix_listK (e : X.K = K := by rfl) : IxR X (rIxL K) := e ▸ ix_list
theorem ix_tupK (e : X.K = K := by rfl) : IxR X (rIxT K) := e ▸ ix_tup
theorem ix_seqK (e : X.K = K := by rfl) : IxR X (rIx K) := e ▸ ix_seq
theorem sl_listK (e : X.K = K := by rfl) : SlR X (rSlL K) := e ▸ sl_list
theorem sl_tupK (e : X.K = K := by rfl) : SlR X (rSlA K) := e ▸ sl_tupA
theorem op_in_seqK (e : X.K = K := by rfl) : OpR X (compareOp .In) (rIn K false) := e ▸ op_in_seq
theorem op_notIn_seqK (e : X.K = K := by rfl) : OpR X (compareOp .NotIn) (rIn K true) := e ▸ op_notIn_seq
theorem op_eqDK (hu : X.A.units + 64 < cLine) (e : X.K = K := by rfl) : OpR X (compareOp .Eq) (rEqD K) := e ▸ op_eqD hu
theorem op_neDK (hu : X.A.units + 64 < cLine) (e : X.K = K := by rfl) : OpR X (compareOp .NotEq) (rNeD K) := e ▸ op_neD hu
theorem op_inDK (hu : X.A.units + 65 < cLine) (e : X.K = K := by rfl) : OpR X (compareOp .In) (rInD K) := e ▸ op_inD hu
theorem op_notInDK (hu : X.A.units + 65 < cLine) (e : X.K = K := by rfl) : OpR X (compareOp .NotIn) (rNotInD K) := e ▸ op_notInD hu
theorem op_catTK (e : X.K = K := by rfl) : OpR X (binaryOp .Add) (rCatT K) := e ▸ op_catT
theorem call_len_seqK (e : X.K = K := by rfl) : CallR X (.builtin "len") (rLenSeq K) := e ▸ call_len_seq
theorem call_list_ofK (e : X.K = K := by rfl) : CallR X (.type "list") (rListOf K) := e ▸ call_list_of
theorem call_tuple_ofK (e : X.K = K := by rfl) : CallR X (.type "tuple") (rTupleOf K) := e ▸ call_tuple_of
theorem call_isiK' (e : X.K = K := by rfl) : CallR X (.builtin "isinstance") (rIsi K) := e ▸ call_isi
theorem call_isiTK (e : X.K = K := by rfl) : CallR X (.builtin "isinstance") (rIsiT K) := e ▸ call_isiT
theorem cr_allK (hc : X.calm = true) (e : X.K = K := by rfl) : CallR X (.builtin "all") (rAll K) := e ▸ cr_all hc
theorem cr_anyK (hc : X.calm = true) (e : X.K = K := by rfl) : CallR X (.builtin "any") (rAny K) := e ▸ cr_any hc
theorem cr_sumK (hc : X.calm = true) (e : X.K = K := by rfl) : CallR X (.builtin "sum") (rSum K) := e ▸ cr_sum hc
theorem cr_maxDK (hc : X.calm = true) (hu : X.A.units + 64 < cLine) (e : X.K = K := by rfl) : CallRK X (.builtin "max") [Str.ofString "default"] (rMaxD K) := e ▸ cr_maxD hc hu
theorem pi_listK (hl : PE X l tl) (e : X.K = K := by rfl) : PI X tg l (iList K tl) := e ▸ pi_list hl
theorem pi_tupK (hl : PE X l tl) (e : X.K = K := by rfl) : PI X tg l (iTup K tl) := e ▸ pi_tup hl
end
theorem un65 {k : Nat} {A : Around} (r : Room k A) : A.units + 65 < cLine := by
  have := r.un
  omega
theorem choose_list {α β : Type} : ∀ {xs : List α} {R : Nat → α → β → Prop}, (∀ (i : Nat) x, xs[i]? = some x → ∃ y, R i x y) → ∃ ys : List β, ys.length = xs.length ∧ ∀ (i : Nat) x y, xs[i]? = some x → ys[i]? = some y → R i x y
  | [], _, _ => ⟨[], rfl, fun i x y h => by simp at h⟩
  | a :: r, R, h => by
    obtain ⟨b, hb⟩ := h 0 a rfl
    obtain ⟨ys, hl, k⟩ := choose_list (xs := r) (R := fun i => R (i + 1)) fun i x e => h (i + 1) x e
    refine ⟨b :: ys, by rw [List.length_cons, hl, List.length_cons], fun i x y h1 h2 => ?_⟩
    cases i with
    | zero =>
      cases h1
      cases h2
      exact hb
    | succ i => exact k i x y h1 h2
theorem str_at {ss : List Str} {i : Nat} {x : V} (h : (ss.map V.str)[i]? = some x) : ∃ s, ss[i]? = some s ∧ x = .str s := by
  rw [List.getElem?_map] at h
  cases e : ss[i]? with
  | none => rw [e] at h; cases h
  | some s => rw [e] at h; exact ⟨s, rfl, (Option.some.inj h).symm⟩
def notW (s : Str) : Bool := !inV (.str s) [.str "any", .str "none"]
theorem notW_iff {s : Str} : notW s = true ↔ s ≠ "any" ∧ s ≠ "none" := by
  unfold notW inV
  simp [eqV]
  constructor
  · rintro ⟨h1, h2⟩
    exact ⟨fun e => h1 e.symm, fun e => h2 e.symm⟩
  · rintro ⟨h1, h2⟩
    exact ⟨fun e => h1 e.symm, fun e => h2 e.symm⟩
/-! ### data of a bounded depth can be compared -/
mutual
theorem deep_lay : ∀ (n : Nat) (d : PyData), deep n d = true → d.canLay0 = true ∧ d.depth ≤ n
  | 0, d, h => by rw [deep_zero] at h; cases h
  | n + 1, .list ds, h => by
    have k := deepAll_lay n ds (deep_list h).2
    unfold PyData.canLay0 PyData.depth
    exact ⟨k.1, by have := k.2; omega⟩
  | n + 1, .tuple ds, h => by
    have k := deepAll_lay n ds (deep_tuple h).2
    unfold PyData.canLay0 PyData.depth
    exact ⟨k.1, by have := k.2; omega⟩
  | n + 1, .dict _, h => by unfold deep at h; cases h
  | n + 1, .str s, h => by
    unfold deep at h
    unfold PyData.canLay0 PyData.depth
    exact ⟨h, by omega⟩
  | n + 1, .none, _ => by unfold PyData.canLay0 PyData.depth; exact ⟨rfl, by omega⟩
  | n + 1, .bool _, _ => by unfold PyData.canLay0 PyData.depth; exact ⟨rfl, by omega⟩
  | n + 1, .int _, _ => by unfold PyData.canLay0 PyData.depth; exact ⟨rfl, by omega⟩
theorem deepAll_lay : ∀ (n : Nat) (ds : List PyData), deepAll n ds = true → PyData.canLayAll0 ds = true ∧ PyData.depthAll ds ≤ n
  | n, [], _ => by unfold PyData.canLayAll0 PyData.depthAll; exact ⟨rfl, by omega⟩
  | n, d :: ds, h => by
    unfold deepAll at h
    have h' := Bool.and_eq_true_iff.mp h
    have k1 := deep_lay n d h'.1
    have k2 := deepAll_lay n ds h'.2
    unfold PyData.canLayAll0 PyData.depthAll
    exact ⟨by rw [k1.1, k2.1]; rfl, Nat.max_le.mpr ⟨k1.2, k2.2⟩⟩
end
theorem deep_shaped {n : Nat} {d : PyData} (h : deep n d = true) (hn : n ≤ 64) : SeqAt.shaped d = true := by
  have k := deep_lay n d h
  unfold SeqAt.shaped
  rw [k.1, decide_eq_true (by omega)]
  rfl
theorem deepAll_of {n : Nat} : ∀ {ds : List PyData}, (∀ d ∈ ds, deep n d = true) → deepAll n ds = true
  | [], _ => by unfold deepAll; rfl
  | d :: ds, h => by
    unfold deepAll
    rw [h d List.mem_cons_self, deepAll_of fun x hx => h x (List.mem_cons_of_mem _ hx)]
    rfl
theorem deep_list_of {n : Nat} {ds : List PyData} (hl : ds.length < 50000) (h : ∀ d ∈ ds, deep n d = true) : deep (n + 1) (.list ds) = true := by
  unfold deep
  rw [decide_eq_true hl, deepAll_of h]
  rfl
theorem deep_tuple_of {n : Nat} {ds : List PyData} (hl : ds.length < 50000) (h : ∀ d ∈ ds, deep n d = true) : deep (n + 1) (.tuple ds) = true := by
  unfold deep
  rw [decide_eq_true hl, deepAll_of h]
  rfl
theorem deep_str {n : Nat} {s : Str} (h : PySem.PyData.strOk s = true) : deep (n + 1) (.str s) = true := by
  unfold deep
  exact h
theorem strOk_of {s : Str} (h : ∀ c ∈ cl s, c < 1000) : PySem.PyData.strOk s = true := by
  unfold PySem.PyData.strOk
  rw [Array.all_eq_true_iff_forall_mem]
  intro c hc
  have := h c (by simpa using hc)
  exact decide_eq_true (by omega)
theorem small_letter : ∀ c ∈ cl "abcdefghijklmnopqrstuvwxyz0123456789", c < 1000 := by decide
theorem small_letter' : ∀ c ∈ cl "abcdefghijklmnopqrstuvwxyz", c < 1000 := by decide
theorem isNm.ok {s : Str} (h : isNm s) : PySem.PyData.strOk s = true := strOk_of fun c hc => small_letter' c (h.2.2 c hc)
theorem isVl.ok {s : Str} (h : isVl s) : PySem.PyData.strOk s = true := strOk_of fun c hc => small_letter c (h.2.2 c hc)
theorem shaped_strs {ss : List Str} (h : ∀ s ∈ ss, PySem.PyData.strOk s = true) (hl : ss.length < 50000) : SeqAt.shaped (.list (ss.map PyData.str)) = true :=
  deep_shaped (n := 2) (deep_list_of (by rw [List.length_map]; exact hl) fun d hd => by
    obtain ⟨s, hs, rfl⟩ := List.mem_map.mp hd
    exact deep_str (h s hs)) (by decide)
theorem of_seq {K : PySem.W.Frag} {b l a : Addr} {H : Hp} {S : List Addr} {xs : List V} (hb : b ∈ S) (h : SqL K (dl H S) a xs) : ∀ H', Bx b l H H' → SqL K H' a xs ∨ SqT K H' a xs := fun H' bx => .inl (dl_le.seq ((bx.same hb).seq h))
theorem of_new {K : PySem.W.Frag} {b l p : Addr} {H : Hp} {xs : List V} (hb : Bag H b l) (hp : H p = none) : ∀ H', Bx b l (upd H p (.lst xs)) H' → SqL K H' p xs ∨ SqT K H' p xs := fun H' bx => .inl (SqL.of (bx.keep p _ (hb.ne_new hp) upd_same))
end Hr

set_option Elab.async false
set_option linter.all false
set_option maxRecDepth 100000
set_option maxHeartbeats 4000000
namespace Hr
open PySem PySem.Spec PyProof.Rows L2
/-! ### conditions -/
inductive Cd where
  | any
  | test (f v : Str)
  | node (k : Str) (cs : List Cd)
mutual
def toD : Cd → PyData
  | .any => .tuple [.str "any"]
  | .test f v => .tuple [.str "test", .str f, .str v]
  | .node k cs => .tuple (.str k :: toDs cs)
def toDs : List Cd → List PyData
  | [] => []
  | c :: r => toD c :: toDs r
end
theorem toDs_map : ∀ cs, toDs cs = cs.map toD
  | [] => by unfold toDs; rfl
  | c :: r => by unfold toDs; rw [toDs_map r]; rfl
def parts : Cd → List Cd
  | .node _ cs => cs
  | _ => []
mutual
def size : Cd → Nat
  | .any => 1
  | .test _ _ => 1
  | .node _ cs => 1 + sizes cs
def sizes : List Cd → Nat
  | [] => 0
  | c :: r => size c + sizes r
end
mutual
def dep : Cd → Int
  | .any => 1
  | .test _ _ => 1
  | .node _ cs => 1 + maxI (deps cs) 0
def deps : List Cd → List Int
  | [] => []
  | c :: r => dep c :: deps r
end
theorem deps_map : ∀ cs, deps cs = cs.map dep
  | [] => by unfold deps; rfl
  | c :: r => by unfold deps; rw [deps_map r]; rfl
mutual
def allp : Cd → List Cd
  | .any => [.any]
  | .test f v => [.test f v]
  | .node k cs => .node k cs :: allps cs
def allps : List Cd → List Cd
  | [] => []
  | c :: r => allp c ++ allps r
end
mutual
theorem allp_len : ∀ c, (allp c).length = size c
  | .any => by unfold allp size; rfl
  | .test _ _ => by unfold allp size; rfl
  | .node k cs => by unfold allp size; rw [List.length_cons, allps_len cs]; omega
theorem allps_len : ∀ cs, (allps cs).length = sizes cs
  | [] => by unfold allps sizes; rfl
  | c :: r => by unfold allps sizes; rw [List.length_append, allp_len c, allps_len r]
end
theorem sizes_sum : ∀ cs, ((cs.map fun c => (size c : Int)).sum) = (sizes cs : Int)
  | [] => by unfold sizes; rfl
  | c :: r => by unfold sizes; rw [List.map_cons, List.sum_cons, sizes_sum r]; omega
theorem allps_flat : ∀ cs, allps cs = cs.flatMap allp
  | [] => by unfold allps; rfl
  | c :: r => by unfold allps; rw [allps_flat r, List.flatMap_cons]
theorem allp_eq (c : Cd) : allp c = c :: (parts c).flatMap allp := by
  cases c with
  | any => unfold allp parts; rfl
  | test => unfold allp parts; rfl
  | node k cs => unfold allp; rw [allps_flat]; rfl
theorem size_eq (c : Cd) : (size c : Int) = 1 + ((parts c).map fun c => (size c : Int)).sum := by
  cases c with
  | any => unfold size parts; rfl
  | test => unfold size parts; rfl
  | node k cs =>
    rw [show parts (.node k cs) = cs from rfl, sizes_sum, show size (.node k cs) = 1 + sizes cs by rw [size]]
    omega
theorem dep_eq (c : Cd) : dep c = 1 + maxI ((parts c).map dep) 0 := by
  cases c with
  | any => unfold dep parts; rfl
  | test => unfold dep parts; rfl
  | node k cs => unfold dep; rw [deps_map]; rfl
/-- the depth is at most n, nothing is too wide, the kinds are told apart -/
def Wn : Nat → Cd → Prop
  | 0, _ => False
  | _ + 1, .any => True
  | _ + 1, .test f v => PyData.strOk f = true ∧ PyData.strOk v = true
  | n + 1, .node k cs => PyData.strOk k = true ∧ k ≠ "any" ∧ k ≠ "test" ∧ cs.length < 1000 ∧ ∀ c ∈ cs, Wn n c
theorem Wn.parts {n : Nat} {c : Cd} (h : Wn (n + 1) c) : (parts c).length < 1000 ∧ ∀ p ∈ parts c, Wn n p := by
  cases c with
  | any => exact ⟨by decide, fun _ h => nomatch h⟩
  | test => exact ⟨by show 0 < 1000; decide, fun _ h => nomatch h⟩
  | node k cs => exact ⟨h.2.2.2.1, h.2.2.2.2⟩
theorem Wn.deep : ∀ {n : Nat} {c : Cd}, Wn n c → deep (n + 1) (toD c) = true
  | n + 1, .any, _ => by
    unfold toD
    exact deep_tuple_of (by show 1 < 50000; decide) fun d hd => by
      rw [List.mem_singleton.mp hd]
      exact deep_str (by decide +kernel)
  | n + 1, .test f v, h => by
    unfold toD
    refine deep_tuple_of (by show 3 < 50000; decide) fun d hd => ?_
    rcases List.mem_cons.mp hd with rfl | hd
    · exact deep_str (by decide +kernel)
    · rcases List.mem_cons.mp hd with rfl | hd
      · exact deep_str h.1
      · rw [List.mem_singleton.mp hd]
        exact deep_str h.2
  | n + 1, .node k cs, h => by
    unfold toD
    refine deep_tuple_of (by rw [List.length_cons, toDs_map, List.length_map]; have := h.2.2.2.1; omega) fun d hd => ?_
    rcases List.mem_cons.mp hd with rfl | hd
    · exact deep_str h.1
    · rw [toDs_map] at hd
      obtain ⟨c, hc, rfl⟩ := List.mem_map.mp hd
      exact Wn.deep (h.2.2.2.2 c hc)
/-- a drawn condition over some fields, its depth at most n -/
def Gd (fs : List Fld) : Nat → Cd → Prop
  | 0, _ => False
  | _ + 1, .any => True
  | _ + 1, .test f v => ∃ fl ∈ fs, fl.1 = f ∧ v ∈ fl.2
  | n + 1, .node k cs => (k = "not" ∧ cs.length = 1 ∨ (k = "and" ∨ k = "or") ∧ 2 ≤ cs.length ∧ cs.length ≤ 3) ∧ ∀ c ∈ cs, Gd fs n c
/-! ### tests without duplicates -/
section
variable {α : Type} [DecidableEq α]
def addN (acc : List α) (x : α) : List α := if x ∈ acc then acc else acc ++ [x]
def dd (l : List α) : List α := l.foldl addN []
theorem mem_addN {acc : List α} {x y : α} : y ∈ addN acc x ↔ y ∈ acc ∨ y = x := by
  unfold addN
  by_cases h : x ∈ acc
  · rw [if_pos h]
    constructor
    · exact .inl
    · rintro (k | rfl)
      · exact k
      · exact h
  · rw [if_neg h, List.mem_append, List.mem_singleton]
theorem mem_foldN {y : α} : ∀ (l acc : List α), y ∈ l.foldl addN acc ↔ y ∈ acc ∨ y ∈ l
  | [], acc => by simp
  | x :: r, acc => by
    rw [List.foldl_cons, mem_foldN r, mem_addN, List.mem_cons, or_assoc]
theorem fold_snoc (l acc : List α) (x : α) : (l ++ [x]).foldl addN acc = addN (l.foldl addN acc) x := by rw [List.foldl_append]; rfl
theorem fold_dd (l : List α) : ∀ acc : List α, (dd l).foldl addN acc = l.foldl addN acc := by
  have key : ∀ (n : Nat) (l : List α), l.length = n → ∀ acc : List α, (dd l).foldl addN acc = l.foldl addN acc := by
    intro n
    induction n with
    | zero =>
      intro l hl acc
      rw [List.eq_nil_of_length_eq_zero hl]
      rfl
    | succ n ih =>
      intro l hl acc
      obtain ⟨r, x, rfl⟩ : ∃ r x, l = r ++ [x] := ⟨l.dropLast, l.getLast (by intro e; rw [e] at hl; cases hl), (List.dropLast_concat_getLast _).symm⟩
      have hr : r.length = n := by simpa using hl
      rw [fold_snoc, show dd (r ++ [x]) = addN (dd r) x from fold_snoc r [] x]
      by_cases h : x ∈ dd r
      · have hx : x ∈ r.foldl addN acc := (mem_foldN r acc).mpr (.inr (by
          have := (mem_foldN r []).mp h
          simpa using this))
        rw [show addN (dd r) x = dd r from if_pos h, show addN (r.foldl addN acc) x = _ from if_pos hx]
        exact ih r hr acc
      · rw [show addN (dd r) x = dd r ++ [x] from if_neg h, fold_snoc, ih r hr acc]
  exact key l.length l rfl
end
abbrev Pr := Str × Str
def prD (p : Pr) : PyData := .tuple [.str p.1, .str p.2]
def own (c : Cd) : List Pr := match c with
  | .test f v => [(f, v)]
  | _ => []
def tl (c : Cd) : List Pr := (allp c).flatMap own
def tests (c : Cd) : List Pr := dd (tl c)
theorem tl_eq (c : Cd) : tl c = own c ++ (parts c).flatMap tl := by
  unfold tl
  rw [allp_eq, List.flatMap_cons, List.flatMap_assoc]
theorem fold_flat (g : Cd → List Pr) : ∀ (cs : List Cd) (acc : List Pr), (cs.flatMap fun c => dd (g c)).foldl addN acc = (cs.flatMap g).foldl addN acc
  | [], acc => rfl
  | c :: r, acc => by rw [List.flatMap_cons, List.flatMap_cons, List.foldl_append, List.foldl_append, fold_dd, fold_flat g r]
/-- the law's own way, level by level -/
theorem tests_node {c : Cd} (h : own c = []) : tests c = ((parts c).flatMap tests).foldl addN [] := by
  unfold tests
  rw [fold_flat tl, tl_eq, h]
  rfl
theorem eqv_pr (p q : Pr) : PyData.eqv (prD p) (prD q) = decide (p = q) := by
  unfold prD
  obtain ⟨a, b⟩ := p
  obtain ⟨c, d⟩ := q
  simp only [PyData.eqv, PyData.eqvAll, Bool.and_true]
  rw [Bool.eq_iff_iff]
  simp
theorem any_pr (acc : List Pr) (x : Pr) : ((acc.map prD).any fun z => PyData.eqv z (prD x)) = decide (x ∈ acc) := by
  rw [List.any_map, Bool.eq_iff_iff, List.any_eq_true]
  simp only [Function.comp, eqv_pr, decide_eq_true_eq]
  constructor
  · rintro ⟨y, hy, rfl⟩
    exact hy
  · exact fun h => ⟨x, h, rfl⟩
/-! ### more of trees -/
theorem cut_tail (x : V) (xs : List V) : cutV (x :: xs) (some 1) none = xs := by
  unfold cutV
  rw [show HT.sIx (x :: xs).length 0 (some 1) = min 1 (x :: xs).length from HT.sIx_nat _ 0 1, HT.sIx_none, show min 1 (x :: xs).length = 1 by rw [List.length_cons]; omega]
  show List.take ((x :: xs).length - 1) xs = xs
  rw [List.length_cons, Nat.add_sub_cancel]
  exact List.take_length
theorem cut_tail_ne (x : V) (xs : List V) : ¬ (HT.sIx (x :: xs).length 0 (some 1) = 0 ∧ HT.sIx (x :: xs).length (x :: xs).length none = (x :: xs).length) := by
  rintro ⟨h, _⟩
  rw [show HT.sIx (x :: xs).length 0 (some 1) = min 1 (x :: xs).length from HT.sIx_nat _ 0 1, List.length_cons] at h
  omega
def leafW (k : Str) : Bool := inV (.str k) [.str "any", .str "test"]
theorem leafW_no {k : Str} (h1 : k ≠ "any") (h2 : k ≠ "test") : leafW k = false := by
  unfold leafW inV
  simp [eqV]
  exact ⟨fun e => h1 e.symm, fun e => h2 e.symm⟩
theorem tree_open {K : PySem.W.Frag} {H : Hp} {v : V} {c : Cd} {n : Nat} (h : Dp K H v (toD c)) (w : Wn (n + 1) c) :
    ∃ (a : Addr) (k : Str) (xs : List V), v = .ref a ∧ SqT K H a (.str k :: xs) ∧ (leafW k = true → parts c = []) ∧ (leafW k = false → DpAll K H xs ((parts c).map toD)) ∧ (k = "test" → ∃ f g, c = .test f g ∧ xs = [.str f, .str g]) ∧ (k ≠ "test" → own c = []) := by
  cases c with
  | any =>
    unfold toD at h
    cases h with
    | tup hs ha =>
      cases ha with
      | cons h1 h2 =>
        cases h1
        cases h2
        exact ⟨_, _, _, rfl, hs, fun _ => rfl, fun e => absurd e (by decide), fun e => absurd e (by decide), fun _ => rfl⟩
  | test f g =>
    unfold toD at h
    cases h with
    | tup hs ha =>
      cases ha with
      | cons h1 h2 =>
        cases h1
        cases h2 with
        | cons h3 h4 =>
          cases h3
          cases h4 with
          | cons h5 h6 =>
            cases h5
            cases h6
            exact ⟨_, _, _, rfl, hs, fun _ => rfl, fun e => absurd e (by decide), fun _ => ⟨f, g, rfl, rfl⟩, fun e => absurd rfl e⟩
  | node k cs =>
    unfold toD at h
    rw [toDs_map] at h
    cases h with
    | tup hs ha =>
      cases ha with
      | cons h1 h2 =>
        cases h1
        have lw := leafW_no w.2.1 w.2.2.1
        exact ⟨_, _, _, rfl, hs, fun e => by rw [lw] at e; (cases e), fun _ => h2, fun e => absurd e w.2.2.1, fun _ => rfl⟩
theorem Wn.some {n : Nat} {c : Cd} (h : Wn n c) : ∃ m, n = m + 1 := by
  cases n with
  | zero => exact h.elim
  | succ m => exact ⟨m, rfl⟩
theorem size_part {c p : Cd} (h : p ∈ parts c) : size p < size c := by
  have e := size_eq c
  have : (size p : Int) ≤ ((parts c).map fun c => (size c : Int)).sum := by
    generalize parts c = l at h
    clear e
    induction l with
    | nil => cases h
    | cons x r ih =>
      rw [List.map_cons, List.sum_cons]
      have hr : (0 : Int) ≤ (r.map fun c => (size c : Int)).sum := by
        clear ih h
        induction r with
        | nil => exact Int.le_refl 0
        | cons y s ih => rw [List.map_cons, List.sum_cons]; omega
      rcases List.mem_cons.mp h with rfl | h
      · omega
      · have := ih h
        omega
  omega
/-- what is drawn is well formed -/
theorem Gd.wn {fs : List Fld} (hf : ∀ f ∈ fs, PyData.strOk f.1 = true ∧ ∀ m ∈ f.2, PyData.strOk m = true) : ∀ {n : Nat} {c : Cd}, Gd fs n c → Wn n c
  | n + 1, .any, _ => trivial
  | n + 1, .test f v, h => by
    obtain ⟨fl, hfl, rfl, hv⟩ := h
    exact ⟨(hf fl hfl).1, (hf fl hfl).2 v hv⟩
  | n + 1, .node k cs, h => by
    refine ⟨?_, ?_, ?_, ?_, fun c hc => Gd.wn hf (h.2 c hc)⟩
    · rcases h.1 with ⟨rfl, _⟩ | ⟨rfl | rfl, _⟩ <;> decide +kernel
    · rcases h.1 with ⟨rfl, _⟩ | ⟨rfl | rfl, _⟩ <;> decide
    · rcases h.1 with ⟨rfl, _⟩ | ⟨rfl | rfl, _⟩ <;> decide
    · rcases h.1 with ⟨_, h⟩ | ⟨_, _, h⟩ <;> omega
theorem Gd.up {fs : List Fld} : ∀ {n : Nat} {c : Cd}, Gd fs n c → Gd fs (n + 1) c
  | n + 1, .any, _ => trivial
  | n + 1, .test f v, h => h
  | n + 1, .node k cs, h => ⟨h.1, fun c hc => Gd.up (h.2 c hc)⟩
theorem Gd.ups {fs : List Fld} {n m : Nat} {c : Cd} (h : Gd fs n c) (hm : n ≤ m) : Gd fs m c := by
  induction hm with
  | refl => exact h
  | step _ ih => exact ih.up
theorem gd_size {fs : List Fld} : ∀ {n : Nat} {c : Cd}, Gd fs n c → 2 * size c + 1 ≤ 3 ^ n
  | n + 1, .any, _ => by
    have : 0 < 3 ^ n := Nat.pow_pos (by decide)
    show 2 * size .any + 1 ≤ _
    rw [Nat.pow_succ, show size .any = 1 by rw [size]]
    omega
  | n + 1, .test f v, _ => by
    have : 0 < 3 ^ n := Nat.pow_pos (by decide)
    rw [Nat.pow_succ, show size (.test f v) = 1 by rw [size]]
    omega
  | n + 1, .node k cs, h => by
    have hl : cs.length ≤ 3 := by rcases h.1 with ⟨_, h⟩ | ⟨_, _, h⟩ <;> omega
    have hs : ∀ (l : List Cd), (∀ c ∈ l, 2 * size c + 1 ≤ 3 ^ n) → 2 * sizes l + l.length ≤ l.length * 3 ^ n := by
      intro l
      induction l with
      | nil => intro _; rw [sizes]; simp
      | cons x r ih =>
        intro hx
        have h1 := hx x List.mem_cons_self
        have h2 := ih fun c hc => hx c (List.mem_cons_of_mem _ hc)
        rw [sizes, List.length_cons, Nat.add_mul, Nat.one_mul]
        omega
    have k1 := hs cs fun c hc => gd_size (h.2 c hc)
    have k2 : cs.length * 3 ^ n ≤ 3 * 3 ^ n := Nat.mul_le_mul_right _ hl
    have h1 : 1 ≤ cs.length := by rcases h.1 with ⟨_, h⟩ | ⟨_, h, _⟩ <;> omega
    rw [Nat.pow_succ, show size (.node k cs) = 1 + sizes cs by rw [size]]
    by_cases hc : cs.length = 3
    · omega
    · have k3 : cs.length * 3 ^ n ≤ 2 * 3 ^ n := Nat.mul_le_mul_right _ (by omega)
      have : 0 < 3 ^ n := Nat.pow_pos (by decide)
      have g : n ≠ 0 := by
        rintro rfl
        obtain ⟨c, hc⟩ := List.exists_mem_of_length_pos (show 0 < cs.length by omega)
        exact h.2 c hc
      have : 3 ≤ 3 ^ n := by
        cases n with
        | zero => exact absurd rfl g
        | succ m =>
          have : 0 < 3 ^ m := Nat.pow_pos (by decide)
          rw [Nat.pow_succ]
          omega
      omega
theorem tests_ok : ∀ {n : Nat} {c : Cd}, Wn n c → ∀ p ∈ tl c, PyData.strOk p.1 = true ∧ PyData.strOk p.2 = true
  | n + 1, c, h, p, hp => by
    rw [tl_eq, List.mem_append] at hp
    rcases hp with hp | hp
    · cases c with
      | any => cases hp
      | test f v =>
        rw [List.mem_singleton.mp hp]
        exact h
      | node k cs => cases hp
    · obtain ⟨q, hq, hp⟩ := List.mem_flatMap.mp hp
      exact tests_ok (h.parts.2 q hq) p hp
theorem mem_dd {l : List Pr} {p : Pr} : p ∈ dd l ↔ p ∈ l := by
  unfold dd
  rw [mem_foldN]
  simp
theorem prs_deep {l : List Pr} {n : Nat} (hl : l.length < 50000) (h : ∀ p ∈ l, PyData.strOk p.1 = true ∧ PyData.strOk p.2 = true) : deep (n + 3) (.list (l.map prD)) = true := by
  refine deep_list_of (by rw [List.length_map]; exact hl) fun d hd => ?_
  obtain ⟨p, hp, rfl⟩ := List.mem_map.mp hd
  have k := h p hp
  unfold prD
  refine deep_tuple_of (by show 2 < 50000; decide) fun d hd => ?_
  rcases List.mem_cons.mp hd with rfl | hd
  · exact deep_str k.1
  · rw [List.mem_singleton.mp hd]
    exact deep_str k.2
theorem pr_deep {p : Pr} {n : Nat} (k : PyData.strOk p.1 = true ∧ PyData.strOk p.2 = true) : deep (n + 2) (prD p) = true := by
  unfold prD
  refine deep_tuple_of (by show 2 < 50000; decide) fun d hd => ?_
  rcases List.mem_cons.mp hd with rfl | hd
  · exact deep_str k.1
  · rw [List.mem_singleton.mp hd]
    exact deep_str k.2
theorem dd_le (l : List Pr) : (dd l).length ≤ l.length := by
  have key : ∀ (l acc : List Pr), (l.foldl addN acc).length ≤ acc.length + l.length := by
    intro l
    induction l with
    | nil => intro acc; simp
    | cons x r ih =>
      intro acc
      rw [List.foldl_cons, List.length_cons]
      refine Nat.le_trans (ih _) ?_
      unfold addN
      split
      · omega
      · rw [List.length_append, List.length_singleton]; omega
  have := key l []
  simpa [dd] using this
theorem tl_le (c : Cd) : (tl c).length ≤ size c := by
  unfold tl
  rw [← allp_len]
  generalize allp c = l
  induction l with
  | nil => exact Nat.le_refl _
  | cons x r ih =>
    rw [List.flatMap_cons, List.length_append, List.length_cons]
    have : (own x).length ≤ 1 := by cases x <;> simp [own]
    omega
/-! ### a comprehension over a list whose items stand for things -/
theorem lc_each {β : Type} {J : It} {G : Hp → Prop} {xs : List V} (bs : List β) (hl : xs.length = bs.length) (w : Walk J xs.length G (YAt xs)) {g : TG} {tt : TT} {te : TE} {vs : List Nat} {σ : L2.St} {H1 : Hp} {D : Addr} {Qd : Hp → Prop} (hD : H1 D = none) (f : β → V) (hG : ∀ H, Same H1 H → G H) (hn : xs.length < 100000)
    (hs : ∀ (i : Nat) x bb H (Qe : V → Hp → Prop) (Z : Hp → Prop), xs[i]? = some x → bs[i]? = some bb → Same H1 H → (∀ H4, Same H H4 → Qe (f bb) H4) → g x (wipe σ vs) H fun σ2 H2 => wipe σ2 vs = wipe σ vs ∧ tt σ2 H2 fun b H3 => if b = true then te σ2 H3 Qe else Z H3)
    (hd : ∀ H, Same H1 H → H D = some (.lst (bs.map f)) → Qd H) :
    ∃ W : Nat → Nat → Hp → Prop, (∃ m, W 0 m (upd H1 D (.lst []))) ∧ ∀ i m H, W i m H →
      (J.stop i H ∧ Qd H) ∨ (J.go i H ∧ ∃ Nx : Hp → Prop, (∀ H', Nx H' → ∃ m', m' < m ∧ W (i + 1) m' H') ∧ ∀ x H', J.yld i H x H' → g x (wipe σ vs) H' fun σ2 H2 => wipe σ2 vs = wipe σ vs ∧ tt σ2 H2 fun b H3 =>
        if b = true then te σ2 H3 fun y H4 => ∃ acc, H4 D = some (.lst acc) ∧ acc.length < sizeLine ∧ Nx (upd H4 D (.lst (acc ++ [y]))) else Nx H3) := by
  refine lc_it w (fun i H => Same H1 H ∧ H D = some (.lst ((bs.take i).map f))) ⟨same_new hD, by rw [upd_same]; rfl⟩ (fun i H _ h => hG H h.1) ?_ ?_
  · rintro i x H H' hi ⟨sm, hy⟩ ⟨rfl, hx⟩
    have hib : i < bs.length := by omega
    have hb := List.getElem?_eq_getElem hib
    refine hs i x _ H' _ _ hx hb sm fun H4 s4 => ⟨_, s4 _ _ hy, szt ?_, fun a o e => ?_, ?_⟩
    · rw [List.length_map, List.length_take]
      omega
    · rw [upd_ne (ne_of_none e hD)]
      exact s4 _ _ (sm _ _ e)
    · rw [upd_same, List.take_add_one, hb, List.map_append]
      rfl
  · rintro H ⟨sm, hy⟩
    rw [hl, List.take_length] at hy
    exact hd H sm hy
theorem dpa_len' {K : PySem.W.Frag} {H : Hp} {β : Type} {vs : List V} {bs : List β} {f : β → PyData} (h : DpAll K H vs (bs.map f)) : vs.length = bs.length := by rw [dpa_len h, List.length_map]
theorem dpa_get' {K : PySem.W.Frag} {H : Hp} {β : Type} {vs : List V} {bs : List β} {f : β → PyData} {i : Nat} {v : V} {x : β} (h : DpAll K H vs (bs.map f)) (hv : vs[i]? = some v) (hb : bs[i]? = some x) : Dp K H v (f x) := by
  obtain ⟨d, h1, h2⟩ := dpa_get h hv
  rw [List.getElem?_map, hb] at h1
  cases h1
  exact h2
theorem dpa_app {K : PySem.W.Frag} {H : Hp} : ∀ {vs ws : List V} {ds es : List PyData}, DpAll K H vs ds → DpAll K H ws es → DpAll K H (vs ++ ws) (ds ++ es)
  | _, _, _, _, .nil, h => h
  | _, _, _, _, .cons h t, k => .cons h (dpa_app t k)
theorem at0 {α : Type} (x : α) (xs : List α) : atI (x :: xs) 0 = some x := atI_nat (j := 0) rfl
theorem take_allp (l : List Cd) (k : Nat) : ((l.take k).flatMap allp).length ≤ (l.flatMap allp).length := by
  have e : l.flatMap allp = (l.take k).flatMap allp ++ (l.drop k).flatMap allp := by rw [← List.flatMap_append, List.take_append_drop]
  rw [e, List.length_append]
  omega
theorem wn_all : ∀ {n : Nat} {c : Cd}, Wn n c → ∀ p ∈ allp c, ∃ m, Wn (m + 1) p
  | n + 1, c, h, p, hp => by
    rw [allp_eq, List.mem_cons] at hp
    rcases hp with rfl | hp
    · exact ⟨n, h⟩
    · obtain ⟨q, hq, hp⟩ := List.mem_flatMap.mp hp
      exact wn_all (h.parts.2 q hq) p hp
theorem own_sub {c : Cd} {i : Nat} {p : Pr} (h : p ∈ dd (((allp c).take i).flatMap own)) : p ∈ tl c := by
  rw [mem_dd] at h
  obtain ⟨q, hq, hp⟩ := List.mem_flatMap.mp h
  exact List.mem_flatMap.mpr ⟨q, List.mem_of_mem_take hq, hp⟩
theorem own_le {c : Cd} {i : Nat} : (dd (((allp c).take i).flatMap own)).length ≤ size c := by
  refine Nat.le_trans (dd_le _) ?_
  rw [← allp_len]
  generalize allp c = l
  have : ∀ l : List Cd, (l.flatMap own).length ≤ l.length := by
    intro l
    induction l with
    | nil => exact Nat.le_refl _
    | cons x r ih =>
      rw [List.flatMap_cons, List.length_append, List.length_cons]
      have : (own x).length ≤ 1 := by cases x <;> simp [own]
      omega
  refine Nat.le_trans (this _) ?_
  rw [List.length_take]
  omega
theorem own_step {c pc : Cd} {i : Nat} (h : (allp c)[i]? = some pc) : ((allp c).take (i + 1)).flatMap own = ((allp c).take i).flatMap own ++ own pc := by
  rw [List.take_add_one, h, List.flatMap_append]
  simp
theorem dd_same {l : List Pr} {x : Pr} (h : x ∈ dd l) : dd (l ++ [x]) = dd l := by
  rw [show dd (l ++ [x]) = addN (dd l) x from fold_snoc l [] x]
  exact if_pos h
theorem dd_more {l : List Pr} {x : Pr} (h : x ∉ dd l) : dd (l ++ [x]) = dd l ++ [x] := by
  rw [show dd (l ++ [x]) = addN (dd l) x from fold_snoc l [] x]
  exact if_neg h
/-- a new object ahead of a hidden list -/
theorem dl1_new {H : Hp} {D p : Addr} {o : HO} (hD : ∃ u, H D = some u) (hp : H p = none) : dl (upd H p o) [D] = upd (dl H [D]) p o := dl_new fun z => by
  rw [List.mem_singleton.mp z] at hp
  obtain ⟨u, e⟩ := hD
  rw [e] at hp
  cases hp
theorem dl1_free {H : Hp} {D p : Addr} (hp : H p = none) : dl H [D] p = none := by
  by_cases z : p ∈ [D]
  · exact dl_at z
  · rw [dl_ne z]; exact hp
theorem tests_le (c : Cd) : (tests c).length ≤ size c := Nat.le_trans (dd_le _) (tl_le c)
theorem tests_sub {c : Cd} {p : Pr} (h : p ∈ tests c) : p ∈ tl c := mem_dd.mp h
theorem tl_part {c q : Cd} {p : Pr} (hq : q ∈ parts c) (h : p ∈ tl q) : p ∈ tl c := by
  rw [tl_eq, List.mem_append]
  exact .inr (List.mem_flatMap.mpr ⟨q, hq, h⟩)
theorem ft_le (c : Cd) (k : Nat) : (((parts c).take k).flatMap tests).length ≤ size c := by
  have h : ∀ l : List Cd, (l.flatMap tests).length ≤ (l.flatMap allp).length := by
    intro l
    induction l with
    | nil => exact Nat.le_refl _
    | cons x r ih =>
      rw [List.flatMap_cons, List.flatMap_cons, List.length_append, List.length_append, allp_len]
      have := tests_le x
      omega
  have h2 := take_allp (parts c) k
  have h3 := allp_len c
  rw [allp_eq, List.length_cons] at h3
  have := h ((parts c).take k)
  omega
theorem fold_le {l acc : List Pr} : (l.foldl addN acc).length ≤ acc.length + l.length := by
  induction l generalizing acc with
  | nil => simp
  | cons x r ih =>
    rw [List.foldl_cons, List.length_cons]
    refine Nat.le_trans ih ?_
    unfold addN
    split
    · omega
    · rw [List.length_append, List.length_singleton]; omega
theorem strs_deep {ss : List Str} {n : Nat} (hl : ss.length < 50000) (h : ∀ s ∈ ss, PyData.strOk s = true) : deep (n + 2) (.list (ss.map PyData.str)) = true := by
  refine deep_list_of (by rw [List.length_map]; exact hl) fun d hd => ?_
  obtain ⟨p, hp, rfl⟩ := List.mem_map.mp hd
  exact deep_str (h p hp)
end Hr

set_option Elab.async false
set_option linter.all false
set_option maxRecDepth 100000
set_option maxHeartbeats 4000000
namespace Hr
open PySem PySem.Spec PyProof.Rows L2
theorem len_le (t : Str) {n : Nat} (h : t.length ≤ n) : t.cps.size ≤ n := h
theorem sign_at {t : Str} {i c : Nat} (h : t.cps[i]? = some c) : t.cps.toList.getD i 0 = c := by
  rw [List.getD_eq_getElem?_getD, Array.getElem?_toList, h]
  rfl
theorem range_getD {α β : Type} (l : List α) (d : α) (f : α → β) : (List.range l.length).map (fun i => f (l.getD i d)) = l.map f := by
  apply List.ext_getElem
  · simp
  · intro i h1 h2
    simp at h1
    simp [List.getD_eq_getElem?_getD, h1]
def allIn (t cs : Str) : Bool := t.cps.toList.all fun c => decide (c ∈ cs.cps.toList)
def consists (t cs : Str) : Bool := decide (1 ≤ (t.length : Int)) && (decide ((t.length : Int) ≤ 8) && allIn t cs)
theorem all_end {K : PySem.W.Frag} {t cs : Str} {H : Hp} {D : Addr} {Q : VK} {n : Nat} (hn : n = t.cps.toList.length) (c1 : decide (1 ≤ (t.length : Int)) = true) (c2 : decide ((t.length : Int) ≤ 8) = true) (hL : H D = some (.lst ((List.range n).map fun i => V.bl (decide (t.cps.toList.getD i 0 ∈ cs.cps.toList))))) (q : Q (.bl (consists t cs)) H) :
    ∃ (a : Addr) (bs : List Bool), [V.ref D] = [V.ref a] ∧ SqL K H a (bs.map V.bl) ∧ Q (.bl (bs.all id)) H := by
  subst hn
  refine ⟨D, (t.cps.toList.map fun c => decide (c ∈ cs.cps.toList)), rfl, .inl (.inl ?_), ?_⟩
  · rw [hL, List.map_map]
    exact congrArg (fun l => some (HO.lst l)) (range_getD t.cps.toList 0 (fun c => V.bl (decide (c ∈ cs.cps.toList))))
  · have e : consists t cs = (t.cps.toList.map fun c => decide (c ∈ cs.cps.toList)).all id := by
      unfold consists allIn
      rw [c1, c2, List.all_map]
      rfl
    exact e ▸ q
def sp_consists : Sp := fun vs H Q _ => ∃ t cs, vs = [.str t, .str cs] ∧ t.length ≤ 50000 ∧ ∀ H', Same H H' → Q (.bl (consists t cs)) H'
def sp_word (cs : Str) : Sp := fun vs H Q _ => ∃ t, vs = [.str t] ∧ t.length ≤ 50000 ∧ ∀ H', Same H H' → Q (.bl (consists t cs)) H'
abbrev nameC : Str := "abcdefghijklmnopqrstuvwxyz"
abbrev valueC : Str := "abcdefghijklmnopqrstuvwxyz0123456789"
theorem bT {c : Bool} {A B : Prop} (h : c = true) (a : A) : if c = true then A else B := by
  rw [if_pos h]
  exact a
theorem bF {c : Bool} {A B : Prop} (h : c = false) (b : B) : if c = true then A else B := by
  rw [h, if_neg Bool.false_ne_true]
  exact b
theorem dec_v {i j : Int} {p : Prop} [Decidable p] (h : i = j ↔ p) : decide (V.int i = V.int j) = decide p := by
  by_cases hp : p
  · rw [decide_eq_true hp, decide_eq_true (congrArg V.int (h.mpr hp))]
  · rw [decide_eq_false hp, decide_eq_false fun e => hp (h.mp (V.int.inj e))]
theorem dec_p {p q : Prop} [Decidable p] [Decidable q] (h : p ↔ q) : decide p = decide q := by
  by_cases hq : q
  · rw [decide_eq_true hq, decide_eq_true (h.mpr hq)]
  · rw [decide_eq_false hq, decide_eq_false fun e => hq (h.mp e)]
theorem two_of {α : Type} {xs : List α} (h : xs.length = 2) : ∃ a b, xs = [a, b] := by
  match xs, h with
  | [a, b], _ => exact ⟨a, b, rfl⟩
theorem one_of {α : Type} {xs : List α} (h : xs.length = 1) : ∃ a, xs = [a] := by
  match xs, h with
  | [a], _ => exact ⟨a, rfl⟩
theorem beq_dec (a k : Str) : (a == k) = decide (k = a) := by
  rw [Bool.eq_iff_iff, beq_iff_eq, decide_eq_true_eq]
  exact eq_comm
theorem in_two (k a b : Str) : inV (.str k) [.str a, .str b] = (decide (k = a) || decide (k = b)) := by
  show ((a == k) || ((b == k) || false)) = _
  rw [beq_dec, beq_dec, Bool.or_false]
/-! ### things: nested tuples of texts whose first item, if any, is a text -/
inductive Th where
  | str (s : Str)
  | nil
  | tup (k : Str) (xs : List Th)
mutual
def toT : Th → PyData
  | .str s => .str s
  | .nil => .tuple []
  | .tup k xs => .tuple (.str k :: toTs xs)
def toTs : List Th → List PyData
  | [] => []
  | t :: r => toT t :: toTs r
end
theorem toTs_map : ∀ ts, toTs ts = ts.map toT
  | [] => by unfold toTs; rfl
  | t :: r => by unfold toTs; rw [toTs_map r]; rfl
def kids : Th → List Th
  | .tup k xs => if leafW k = true then [] else xs
  | _ => []
mutual
def cnt : Th → Nat
  | .str _ => 1
  | .nil => 1
  | .tup k xs => 1 + (if leafW k = true then 0 else cnts xs)
def cnts : List Th → Nat
  | [] => 0
  | t :: r => cnt t + cnts r
end
theorem cnts_sum : ∀ ts, cnts ts = (ts.map cnt).sum
  | [] => by unfold cnts; rfl
  | t :: r => by unfold cnts; rw [cnts_sum r, List.map_cons, List.sum_cons]
theorem cnt_eq (t : Th) : cnt t = 1 + ((kids t).map cnt).sum := by
  cases t with
  | str s => unfold cnt kids; rfl
  | nil => unfold cnt kids; rfl
  | tup k xs =>
    rw [show cnt (.tup k xs) = 1 + (if leafW k = true then 0 else cnts xs) by rw [cnt]]
    rw [show kids (.tup k xs) = if leafW k = true then [] else xs from rfl]
    by_cases h : leafW k = true
    · rw [if_pos h, if_pos h]; rfl
    · rw [if_neg h, if_neg h, cnts_sum]
def fieldOk (f : Str) : Bool := consists f nameC && !decide (f = "any")
def testOk : List Th → Bool
  | [.str f, .str v] => fieldOk f && consists v valueC
  | _ => false
/-- is it a condition if its parts are? -/
def form : Th → Bool
  | .tup k xs => if k = "any" then decide (xs.length = 0) else if k = "test" then testOk xs else if k = "not" then decide (xs.length = 1) else (decide (k = "and") || decide (k = "or")) && decide (2 ≤ xs.length)
  | _ => false
def isT : Nat → Th → Bool
  | 0, _ => false
  | n + 1, t => form t && (kids t).all (isT n)
/-- bounded things -/
def WT : Nat → Th → Prop
  | 0, _ => False
  | _ + 1, .str s => PyData.strOk s = true ∧ s.length ≤ 1000
  | _ + 1, .nil => True
  | n + 1, .tup k xs => (PyData.strOk k = true ∧ k.length ≤ 1000) ∧ xs.length < 1000 ∧ ∀ x ∈ xs, WT n x
theorem WT.deep : ∀ {n : Nat} {t : Th}, WT n t → deep (n + 1) (toT t) = true
  | n + 1, .str s, h => by unfold toT; exact deep_str h.1
  | n + 1, .nil, _ => by unfold toT; exact deep_tuple_of (by show 0 < 50000; decide) fun d hd => nomatch hd
  | n + 1, .tup k xs, h => by
    unfold toT
    refine deep_tuple_of (by rw [List.length_cons, toTs_map, List.length_map]; have := h.2.1; omega) fun d hd => ?_
    rcases List.mem_cons.mp hd with rfl | hd
    · exact deep_str h.1.1
    · rw [toTs_map] at hd
      obtain ⟨c, hc, rfl⟩ := List.mem_map.mp hd
      exact WT.deep (h.2.2 c hc)
theorem WT.up : ∀ {n : Nat} {t : Th}, WT n t → WT (n + 1) t
  | n + 1, .str s, h => h
  | n + 1, .nil, _ => trivial
  | n + 1, .tup k xs, h => ⟨h.1, h.2.1, fun x hx => WT.up (h.2.2 x hx)⟩
theorem WT.ups {n m : Nat} {t : Th} (h : WT n t) (hm : n ≤ m) : WT m t := by
  induction hm with
  | refl => exact h
  | step _ ih => exact ih.up
theorem WT.kids {n : Nat} {t : Th} (h : WT (n + 1) t) : (kids t).length < 1000 ∧ ∀ x ∈ kids t, WT n x := by
  cases t with
  | str s => exact ⟨by show 0 < 1000; decide, fun _ h => nomatch h⟩
  | nil => exact ⟨by show 0 < 1000; decide, fun _ h => nomatch h⟩
  | tup k xs =>
    show (if leafW k = true then [] else xs).length < 1000 ∧ ∀ x ∈ (if leafW k = true then [] else xs), WT n x
    split
    · exact ⟨by show 0 < 1000; decide, fun _ h => nomatch h⟩
    · exact h.2
mutual
def th : Cd → Th
  | .any => .tup "any" []
  | .test f v => .tup "test" [.str f, .str v]
  | .node k cs => .tup k (ths cs)
def ths : List Cd → List Th
  | [] => []
  | c :: r => th c :: ths r
end
theorem ths_map : ∀ cs, ths cs = cs.map th
  | [] => by unfold ths; rfl
  | c :: r => by unfold ths; rw [ths_map r]; rfl
theorem th_toD : ∀ {n : Nat} {c : Cd}, Wn n c → toT (th c) = toD c
  | n + 1, .any, _ => by unfold th toT toTs toD; rfl
  | n + 1, .test f v, _ => by unfold th toT toTs toTs toTs toT toD; rfl
  | n + 1, .node k cs, h => by
    unfold th toT toD
    rw [toTs_map, ths_map, toDs_map, List.map_map]
    congr 2
    exact List.map_congr_left fun c hc => th_toD (h.2.2.2.2 c hc)
/-- what passes is a condition in the narrow sense -/
theorem isT_cd : ∀ (n : Nat) (m : Nat) (t : Th), isT n t = true → WT m t → ∃ c, toD c = toT t ∧ Wn n c ∧ size c = cnt t
  | 0, _, _, h, _ => by cases h
  | _ + 1, 0, _, _, hw => hw.elim
  | n + 1, m + 1, t, h, hw => by
    have h' := Bool.and_eq_true_iff.mp h
    cases t with
    | str s => cases h'.1
    | nil => cases h'.1
    | tup k xs =>
      have hf : (if k = "any" then decide (xs.length = 0) else if k = "test" then testOk xs else if k = "not" then decide (xs.length = 1) else (decide (k = "and") || decide (k = "or")) && decide (2 ≤ xs.length)) = true := h'.1
      have hk := List.all_eq_true.mp h'.2
      by_cases e1 : k = "any"
      · subst e1
        rw [if_pos rfl] at hf
        have e0 : xs = [] := List.eq_nil_of_length_eq_zero (of_decide_eq_true hf)
        subst e0
        exact ⟨.any, by unfold toD toT toTs; rfl, trivial, by rw [size, cnt]; rfl⟩
      · rw [if_neg e1] at hf
        by_cases e2 : k = "test"
        · subst e2
          rw [if_pos rfl] at hf
          match xs, hf, hw with
          | [.str f, .str v], hf, hw =>
            have w1 := hw.2.2 (.str f) (by simp)
            have w2 := hw.2.2 (.str v) (by simp)
            cases m with
            | zero => exact w1.elim
            | succ m => exact ⟨.test f v, by unfold toD toT toTs toTs toTs toT; rfl, ⟨w1.1, w2.1⟩, by rw [size, cnt]; rfl⟩
        · rw [if_neg e2] at hf
          have lw := leafW_no e1 e2
          have ek : kids (.tup k xs) = xs := if_neg (by rw [lw]; decide)
          rw [ek] at hk
          have hcs : ∃ cs : List Cd, cs.map toD = xs.map toT ∧ (∀ c ∈ cs, Wn n c) ∧ sizes cs = cnts xs ∧ cs.length = xs.length := by
            have hx := hw.2.2
            clear hf ek h h' hw
            induction xs with
            | nil => exact ⟨[], rfl, fun _ h => (nomatch h), by rw [sizes, cnts], rfl⟩
            | cons x r ih =>
              obtain ⟨c, c1, c2, c3⟩ := isT_cd n m x (hk x List.mem_cons_self) (hx x List.mem_cons_self)
              obtain ⟨cs, d1, d2, d3, d4⟩ := ih (fun y hy => hk y (List.mem_cons_of_mem _ hy)) fun y hy => hx y (List.mem_cons_of_mem _ hy)
              refine ⟨c :: cs, by rw [List.map_cons, List.map_cons, c1, d1], fun y hy => ?_, by rw [sizes, cnts, c3, d3], by rw [List.length_cons, List.length_cons, d4]⟩
              rcases List.mem_cons.mp hy with rfl | hy
              · exact c2
              · exact d2 y hy
          obtain ⟨cs, d1, d2, d3, d4⟩ := hcs
          refine ⟨.node k cs, ?_, ⟨hw.1.1, e1, e2, by have := hw.2.1; omega, d2⟩, ?_⟩
          · unfold toD toT
            rw [toDs_map, toTs_map, d1]
          · rw [size, cnt, if_neg (by rw [lw]; decide), d3]
theorem Wn.wt : ∀ {n : Nat} {c : Cd}, Wn n c → (∀ p ∈ tl c, p.1.length ≤ 1000 ∧ p.2.length ≤ 1000) → (∀ q ∈ allp c, ∀ k cs, q = .node k cs → k.length ≤ 1000) → WT (n + 1) (th c)
  | n + 1, .any, _, _, _ => by unfold th; exact ⟨⟨by decide +kernel, by decide⟩, by decide, fun _ h => nomatch h⟩
  | n + 1, .test f v, h, hl, _ => by
    unfold th
    have k := hl (f, v) (by rw [tl_eq]; exact List.mem_append_left _ List.mem_cons_self)
    refine ⟨⟨by decide +kernel, by decide⟩, by show 2 < 1000; decide, fun x hx => ?_⟩
    rcases List.mem_cons.mp hx with rfl | hx
    · exact ⟨h.1, k.1⟩
    · rw [List.mem_singleton.mp hx]
      exact ⟨h.2, k.2⟩
  | n + 1, .node k cs, h, hl, hk => by
    unfold th
    rw [ths_map]
    refine ⟨⟨h.1, hk _ (by rw [allp_eq]; exact List.mem_cons_self) k cs rfl⟩, by rw [List.length_map]; exact h.2.2.2.1, fun x hx => ?_⟩
    obtain ⟨c, hc, rfl⟩ := List.mem_map.mp hx
    refine Wn.wt (h.2.2.2.2 c hc) (fun p hp => hl p (tl_part (c := .node k cs) hc hp)) fun q hq => hk q ?_
    rw [allp_eq]
    exact List.mem_cons_of_mem _ (List.mem_flatMap.mpr ⟨c, hc, hq⟩)
/-! ### comprehensions that make data (no bag) -/
theorem lc_dat {J : It} {n : Nat} {G : Hp → Prop} {Y : Nat → Hp → V → Hp → Prop} (w : Walk J n G Y) {g : TG} {tt : TT} {te : TE} {vs : List Nat} {σ : L2.St} {H1 : Hp} {D : Addr} {Qd : Hp → Prop} (S : List Addr) (hD : H1 D = none) (P : Nat → V → Hp → Prop) (hP : ∀ i y H H', Same H H' → P i y H → P i y H') (hG : ∀ H, Same H1 H → G H) (hn : n < 100000)
    (hs : ∀ i x H H' (Qe : V → Hp → Prop) (Z : Hp → Prop), i < n → Same H1 H → Same (dl H1 S) (dl H (D :: S)) → (∃ xs, H D = some (.lst xs)) → (∀ y H4, Same H H4 → P i y (dl H4 (D :: S)) → Qe y H4) → Y i H x H' → g x (wipe σ vs) H' fun σ2 H2 => wipe σ2 vs = wipe σ vs ∧ tt σ2 H2 fun bb H3 => if bb = true then te σ2 H3 Qe else Z H3)
    (hd : ∀ H ys, Same H1 H → ys.length = n → H D = some (.lst ys) → (∀ (i : Nat) y, ys[i]? = some y → P i y (dl H (D :: S))) → Qd H) :
    ∃ W : Nat → Nat → Hp → Prop, (∃ m, W 0 m (upd H1 D (.lst []))) ∧ ∀ i m H, W i m H →
      (J.stop i H ∧ Qd H) ∨ (J.go i H ∧ ∃ Nx : Hp → Prop, (∀ H', Nx H' → ∃ m', m' < m ∧ W (i + 1) m' H') ∧ ∀ x H', J.yld i H x H' → g x (wipe σ vs) H' fun σ2 H2 => wipe σ2 vs = wipe σ vs ∧ tt σ2 H2 fun b H3 =>
        if b = true then te σ2 H3 fun y H4 => ∃ acc, H4 D = some (.lst acc) ∧ acc.length < sizeLine ∧ Nx (upd H4 D (.lst (acc ++ [y]))) else Nx H3) := by
  refine lc_it w (fun i H => Same H1 H ∧ ∃ ys, H D = some (.lst ys) ∧ ys.length = i ∧ ∀ (i : Nat) y, ys[i]? = some y → P i y (dl H (D :: S))) ⟨same_new hD, [], upd_same, rfl, fun _ _ h => by simp at h⟩ (fun i H _ h => hG H h.1) ?_ ?_
  · rintro i x H H' hi ⟨sm, ys, hy, hl, hp⟩ y
    refine hs i x H H' _ _ hi sm (fun a o e => ?_) ⟨ys, hy⟩ (fun y H4 s4 p4 => ⟨ys, s4 D _ hy, szt (by omega), fun a o e => ?_, ys ++ [y], upd_same, by simp [hl], fun j z hz => ?_⟩) y
    · obtain ⟨h1, h2⟩ := dl_some e
      rw [dl_ne (fun z => (List.mem_cons.mp z).elim (fun z => ne_of_none h2 hD z) h1)]
      exact sm a o h2
    · rw [upd_ne (ne_of_none e hD)]
      exact s4 a o (sm a o e)
    · rw [dl_upd List.mem_cons_self]
      by_cases hj : j < ys.length
      · rw [List.getElem?_append_left hj] at hz
        exact hP j z _ _ (dl_mono s4) (hp j z hz)
      · have ej : j = i := by
          have := (List.getElem?_eq_some_iff.mp hz).1
          rw [List.length_append, List.length_singleton] at this
          omega
        subst ej
        rw [List.getElem?_append_right (by omega), hl, Nat.sub_self] at hz
        cases hz
        exact p4
  · rintro H ⟨sm, ys, hy, hl, hp⟩
    exact hd H ys sm hl hy hp
/-! ### the stack of is_condition -/
abbrev It2 := Th × Nat
def itD (p : It2) : PyData := .tuple [toT p.1, .int p.2]
def okW (W : List It2) : Bool := W.all fun p => isT (9 - p.2) p.1
def cntW (W : List It2) : Nat := (W.map fun p => cnt p.1).sum
theorem cnt_pos (t : Th) : 1 ≤ cnt t := by rw [cnt_eq]; omega
theorem okW_app (A B : List It2) : okW (A ++ B) = (okW A && okW B) := by unfold okW; rw [List.all_append]
theorem cntW_app (A B : List It2) : cntW (A ++ B) = cntW A + cntW B := by unfold cntW; rw [List.map_append, List.sum_append]
theorem okW_kids (t : Th) (d : Nat) : okW ((kids t).map fun c => (c, d + 1)) = (kids t).all (isT (8 - d)) := by
  unfold okW
  rw [List.all_map]
  congr 1
  funext c
  show isT (9 - (d + 1)) c = _
  rw [show 9 - (d + 1) = 8 - d by omega]
theorem cntW_kids (t : Th) (d : Nat) : 1 + cntW ((kids t).map fun c => (c, d + 1)) = cnt t := by
  unfold cntW
  rw [List.map_map, cnt_eq]
  rfl
theorem isT_open {t : Th} {d : Nat} (h : d ≤ 8) : isT (9 - d) t = (form t && (kids t).all (isT (8 - d))) := by
  rw [show 9 - d = (8 - d) + 1 by omega]
  rfl
theorem form_tup {t : Th} (h : form t = true) : ∃ k xs, t = .tup k xs := by
  cases t with
  | str s => cases h
  | nil => cases h
  | tup k xs => exact ⟨k, xs, rfl⟩
theorem dpa_snoc {K : PySem.W.Frag} {H : Hp} : ∀ {ds : List PyData} {e : PyData} {ws : List V}, DpAll K H ws (ds ++ [e]) → ∃ ws0 w, ws = ws0 ++ [w] ∧ DpAll K H ws0 ds ∧ Dp K H w e
  | [], e, ws, h => by
    cases h with
    | cons h1 h2 =>
      cases h2
      exact ⟨[], _, rfl, .nil, h1⟩
  | d :: ds, e, ws, h => by
    cases h with
    | cons h1 h2 =>
      obtain ⟨ws0, w, rfl, k1, k2⟩ := dpa_snoc h2
      exact ⟨_ :: ws0, w, rfl, .cons h1 k1, k2⟩
theorem last_at' {α : Type} (xs : List α) (x : α) : (xs ++ [x])[(xs ++ [x]).length - 1]? = some x := by
  rw [List.length_append, List.length_singleton, Nat.add_sub_cancel, List.getElem?_append_right (Nat.le_refl _), Nat.sub_self]
  rfl
/-! ### expressions that make data -/
section
variable {K : PySem.W.Frag} {S : List Addr} {σ : L2.St} {H : Hp}
def EvD (K : PySem.W.Frag) (S : List Addr) (σ : L2.St) (H : Hp) (te : TE) (d : PyData) : Prop := ∀ H1, Same H H1 → ∀ Q : VK, (∀ v H2, Same H1 H2 → Dp K (dl H2 S) v d → Q v H2) → te σ H1 Q
def EvDs (K : PySem.W.Frag) (S : List Addr) (σ : L2.St) (H : Hp) (ta : TA) (ds : List PyData) : Prop := ∀ H1, Same H H1 → ∀ Q : List V → Hp → Prop, (∀ vs H2, Same H1 H2 → DpAll K (dl H2 S) vs ds → Q vs H2) → ta σ H1 Q
theorem evd_str {s : Str} : EvD K S σ H (tC (.str s)) (.str s) := fun H1 _ _ q => q _ H1 (Same.refl _) (.str _)
theorem evd_int {i : Int} : EvD K S σ H (tC (.int i)) (.int i) := fun H1 _ _ q => q _ H1 (Same.refl _) (.int _)
theorem evd_bl {b : Bool} : EvD K S σ H (tC (.bl b)) (.bool b) := fun H1 _ _ q => q _ H1 (Same.refl _) (.bl _)
theorem evd_var {i : Nat} {v : V} {d : PyData} (h : σ[i]? = some (some v)) (hd : Dp K (dl H S) v d) : EvD K S σ H (tVar i) d := fun H1 s1 _ q => ⟨v, h, q v H1 (Same.refl _) (dp_mono (dl_mono s1) hd)⟩
theorem evds_nil : EvDs K S σ H tNil [] := fun H1 _ _ q => q [] H1 (Same.refl _) .nil
theorem evds_cons {te : TE} {ta : TA} {d : PyData} {ds : List PyData} (h : EvD K S σ H te d) (hs : EvDs K S σ H ta ds) : EvDs K S σ H (tCons te ta) (d :: ds) := fun H1 s1 Q q =>
  h H1 s1 _ fun v H2 s2 hv => hs H2 (s1.trans s2) _ fun vs H3 s3 hvs => q (v :: vs) H3 (s2.trans s3) (.cons (dp_mono (dl_mono s3) hv) hvs)
theorem evd_tup {ta : TA} {ds : List PyData} (tr : Tr H S) (h : EvDs K S σ H ta ds) (hl : ds.length ≤ 1000) : EvD K S σ H (tTup ta) (.tuple ds) := fun H1 s1 Q q =>
  h H1 s1 _ fun vs H2 s2 hvs => ⟨szl (by rw [dpa_len hvs]; omega), fun p hp => by
    have tr2 : Tr H2 S := tr.same (s1.trans s2)
    exact q _ _ (s2.trans (same_new hp)) (.tup (SqT.of (dl_upd_at tr2 hp)) (dpa_mono (dl_same_new tr2 hp) hvs))⟩
/-- a new list of data -/
theorem evd_lst {ta : TA} {ds : List PyData} {Q : VK} (h : EvDs K S σ H ta ds) (hl : ds.length ≤ 1000) (q : ∀ (p : Addr) (xs : List V) (H2 : Hp), Same H H2 → H2 p = none → DpAll K (dl H2 S) xs ds → Q (.ref p) (upd H2 p (.lst xs))) : tLst ta σ H Q :=
  h H (Same.refl _) _ fun vs H2 s2 hvs => ⟨szl (by rw [dpa_len hvs]; omega), fun p hp => q p vs H2 s2 hp hvs⟩
end
theorem walk_rangeL {lo : Int} {n : Nat} : Walk (Itr lo n) ((List.range n).map fun i => V.int (lo + (i : Nat))).length (fun _ => True) (YAt ((List.range n).map fun i => V.int (lo + (i : Nat)))) := by
  rw [List.length_map, List.length_range]
  refine walk_range.mono (fun _ h => h) fun i H x H' hi _ ⟨h1, h2⟩ => ⟨h1, ?_⟩
  rw [List.getElem?_map, List.getElem?_range hi, h2]
  rfl
theorem cut_take {x : List V} {i : Int} (h0 : 0 ≤ i) (h1 : i < (x.length : Int)) : cutV x none (some i) = x.take i.toNat ∧ ¬ (HT.sIx x.length 0 none = 0 ∧ HT.sIx x.length x.length (some i) = x.length) := by
  obtain ⟨k, rfl⟩ : ∃ k : Nat, i = k := ⟨i.toNat, by omega⟩
  have hk : k < x.length := by omega
  constructor
  · unfold cutV
    rw [HT.sIx_none, HT.sIx_nat, List.drop_zero, Nat.sub_zero, Int.toNat_natCast, Nat.min_eq_left (by omega)]
  · rintro ⟨_, h⟩
    rw [HT.sIx_nat, Nat.min_eq_left (by omega)] at h
    omega
theorem cut_drop {x : List V} {i : Int} (h0 : 1 ≤ i) (hx : 1 ≤ x.length) : cutV x (some i) none = x.drop i.toNat ∧ ¬ (HT.sIx x.length 0 (some i) = 0 ∧ HT.sIx x.length x.length none = x.length) := by
  obtain ⟨k, rfl⟩ : ∃ k : Nat, i = k := ⟨i.toNat, by omega⟩
  constructor
  · unfold cutV
    rw [HT.sIx_none, HT.sIx_nat, Int.toNat_natCast]
    by_cases hk : k ≤ x.length
    · rw [Nat.min_eq_left hk]
      apply List.take_of_length_le
      rw [List.length_drop]
      omega
    · rw [Nat.min_eq_right (by omega), Nat.sub_self, List.take_zero, List.drop_of_length_le (by omega)]
  · rintro ⟨h, _⟩
    rw [HT.sIx_nat] at h
    omega
theorem eqv_nilT : PyData.eqv (toT .nil) (.tuple []) = true := by unfold toT; simp [PyData.eqv, PyData.eqvAll]
theorem eqv_tupT (k : Str) (xs : List Th) : PyData.eqv (toT (.tup k xs)) (.tuple []) = false := by unfold toT; simp [PyData.eqv, PyData.eqvAll]
theorem eqv_rest (ds : List PyData) : PyData.eqv (.tuple ds) (.tuple []) = ds.isEmpty := by
  cases ds <;> simp [PyData.eqv, PyData.eqvAll]
def isTup : Th → Bool
  | .tup _ _ => true
  | _ => false
theorem ints_deep {zs : List Int} {n : Nat} (hl : zs.length < 50000) : deep (n + 2) (.list (zs.map PyData.int)) = true :=
  deep_list_of (by rw [List.length_map]; exact hl) fun d hd => by
    obtain ⟨z, _, rfl⟩ := List.mem_map.mp hd
    unfold deep
    rfl
theorem places_of {n : Nat} (p : V → Bool) : ∃ zs : List Int, (((List.range n).map fun i => V.int (1 + (i : Nat))).filter p).map (fun v => v) = zs.map V.int ∧ zs.length ≤ n ∧ ∀ z ∈ zs, ∃ i : Nat, i < n ∧ z = 1 + (i : Int) ∧ p (.int z) = true := by
  refine ⟨((List.range n).filter fun i => p (.int (1 + (i : Nat)))).map fun i => 1 + ((i : Nat) : Int), ?_, ?_, fun z hz => ?_⟩
  · rw [List.map_id', List.filter_map, List.map_map]
    rfl
  · rw [List.length_map]
    refine Nat.le_trans (List.length_filter_le _ _) ?_
    rw [List.length_range]
    exact Nat.le_refl _
  · obtain ⟨i, hi, rfl⟩ := List.mem_map.mp hz
    obtain ⟨h1, h2⟩ := List.mem_filter.mp hi
    exact ⟨i, List.mem_range.mp h1, rfl, h2⟩
theorem wt_s {n : Nat} {s : Str} (h : PyData.strOk s = true ∧ s.length ≤ 1000) : WT (n + 1) (.str s) := h
theorem wt_t {n : Nat} {k : Str} {xs : List Th} (h : PyData.strOk k = true ∧ k.length ≤ 1000) (hl : xs.length < 1000) (hx : ∀ x ∈ xs, WT n x) : WT (n + 1) (.tup k xs) := ⟨h, hl, hx⟩
theorem wta_nil {n : Nat} : ∀ x ∈ ([] : List Th), WT n x := fun _ h => nomatch h
theorem wta_cons {n : Nat} {t : Th} {ts : List Th} (h : WT n t) (hs : ∀ x ∈ ts, WT n x) : ∀ x ∈ t :: ts, WT n x := fun x hx => by
  rcases List.mem_cons.mp hx with rfl | hx
  · exact h
  · exact hs x hx
def isTh : Th → Bool
  | .str _ => false
  | _ => true
def sOk (s : Str) : Prop := PyData.strOk s = true ∧ s.length ≤ 1000
theorem Gd.wt {fs : List Fld} (hf : ∀ f ∈ fs, sOk f.1 ∧ ∀ m ∈ f.2, sOk m) : ∀ {n : Nat} {c : Cd}, Gd fs n c → WT (n + 1) (th c) ∧ isTh (th c) = true
  | n + 1, .any, _ => by unfold th; exact ⟨wt_t ⟨by decide +kernel, by decide⟩ (by decide) wta_nil, rfl⟩
  | n + 1, .test f v, h => by
    obtain ⟨fl, hfl, rfl, hv⟩ := h
    unfold th
    exact ⟨wt_t ⟨by decide +kernel, by decide⟩ (by show 2 < 1000; decide) (wta_cons (wt_s (hf fl hfl).1) (wta_cons (wt_s ((hf fl hfl).2 v hv)) wta_nil)), rfl⟩
  | n + 1, .node k cs, h => by
    unfold th
    rw [ths_map]
    refine ⟨wt_t ?_ ?_ fun x hx => ?_, rfl⟩
    · rcases h.1 with ⟨rfl, _⟩ | ⟨rfl | rfl, _⟩ <;> exact ⟨by decide +kernel, by decide⟩
    · rw [List.length_map]
      rcases h.1 with ⟨_, h⟩ | ⟨_, _, h⟩ <;> omega
    · obtain ⟨c, hc, rfl⟩ := List.mem_map.mp hx
      exact (Gd.wt hf (h.2 c hc)).1
theorem FnOk.some {ι : Type} {P : Program} {w : World} {K : PySem.W.Frag} {mg : Str → Option Value} {base : Heap} {CX : CXT} {k : Nat} {f : Addr} {fd : FuncData} {ps : List Str} {sp : ι → Sp} (F : ∀ i, FnOk P w K mg base CX k f fd ps (sp i)) : FnOk P w K mg base CX k f fd ps (fun vs H Q E => ∃ i, sp i vs H Q E) :=
  ⟨fun vs H Q E ⟨i, h⟩ => (F i).len vs H Q E h, fun A outer s H args us vs Q E hr e0 bd vl ⟨i, h⟩ => (F i).run A outer s H args us vs Q E hr e0 bd vl h⟩
theorem consists_nm {s : Str} (h : isNm s) : consists s nameC = true := by
  unfold consists allIn
  have hl : s.length = (cl s).length := rfl
  rw [decide_eq_true (by have := h.1; omega), decide_eq_true (by have := h.2.1; omega)]
  show (true && (true && _)) = true
  rw [Bool.true_and, Bool.true_and, List.all_eq_true]
  exact fun c hc => decide_eq_true (h.2.2 c hc)
theorem consists_vl {s : Str} (h : isVl s) : consists s valueC = true := by
  unfold consists allIn
  have hl : s.length = (cl s).length := rfl
  rw [decide_eq_true (by have := h.1; omega), decide_eq_true (by have := h.2.1; omega)]
  show (true && (true && _)) = true
  rw [Bool.true_and, Bool.true_and, List.all_eq_true]
  exact fun c hc => decide_eq_true (h.2.2 c hc)
/-- a test under i negations -/
def chain (f v : Str) : Nat → Th
  | 0 => .tup "test" [.str f, .str v]
  | i + 1 => .tup "not" [chain f v i]
theorem chain_isT {f v : Str} (h : testOk [.str f, .str v] = true) : ∀ (i n : Nat), isT n (chain f v i) = decide (i < n)
  | i, 0 => by rw [decide_eq_false (by omega)]; rfl
  | 0, n + 1 => by
    rw [decide_eq_true (by omega)]
    show (testOk [.str f, .str v] && ([] : List Th).all (isT n)) = true
    rw [h]
    rfl
  | i + 1, n + 1 => by
    show (true && ([chain f v i].all (isT n))) = _
    rw [Bool.true_and, List.all_cons, chain_isT h i n, List.all_nil, Bool.and_true]
    exact dec_p (by omega)
theorem chain_cnt (f v : Str) : ∀ i, cnt (chain f v i) = i + 1
  | 0 => by rw [cnt_eq]; rfl
  | i + 1 => by
    rw [cnt_eq]
    show 1 + (([chain f v i]).map cnt).sum = _
    rw [List.map_cons, List.map_nil, List.sum_cons, List.sum_nil, chain_cnt f v i]
    omega
theorem chain_wt {f v : Str} (hf : sOk f) (hv : sOk v) : ∀ i, WT (i + 2) (chain f v i)
  | 0 => wt_t ⟨by decide +kernel, by decide⟩ (by show 2 < 1000; decide) (wta_cons (wt_s hf) (wta_cons (wt_s hv) wta_nil))
  | i + 1 => wt_t ⟨by decide +kernel, by decide⟩ (by show 1 < 1000; decide) (wta_cons (chain_wt hf hv i) wta_nil)
/-- many times any -/
def wideT (m : Nat) : Th := .tup "or" (List.replicate m (.tup "any" []))
theorem wide_isT (m : Nat) : isT 8 (wideT m) = decide (2 ≤ m) := by
  show (decide (2 ≤ (List.replicate m (Th.tup "any" [])).length) && (List.replicate m (Th.tup "any" [])).all (isT 7)) = _
  rw [List.length_replicate]
  have : (List.replicate m (Th.tup "any" [])).all (isT 7) = true := List.all_eq_true.mpr fun x hx => by
    rw [List.eq_of_mem_replicate hx]
    rfl
  rw [this, Bool.and_true]
theorem wide_cnt (m : Nat) : cnt (wideT m) = m + 1 := by
  rw [cnt_eq]
  show 1 + ((List.replicate m (Th.tup "any" [])).map cnt).sum = _
  rw [List.map_replicate, show cnt (.tup "any" []) = 1 by rw [cnt_eq]; rfl, List.sum_replicate_nat]
  omega
theorem wide_wt {m : Nat} (h : m < 1000) : WT 2 (wideT m) := wt_t ⟨by decide +kernel, by decide⟩ (by rw [List.length_replicate]; exact h) fun x hx => by
  rw [List.eq_of_mem_replicate hx]
  exact wt_t ⟨by decide +kernel, by decide⟩ (by decide) wta_nil
end Hr

set_option Elab.async false
set_option linter.all false
set_option maxRecDepth 100000
set_option maxHeartbeats 4000000
namespace Hr
open PySem PySem.Spec PyProof.Rows L2
def topS (i : Nat) : Stmt := PySem.Challenge.pw_hiddenrank_k06_conditions_recognized.main.body.getD i (.Pass ⟨0, 0, 0, 0⟩)
abbrev s_consists_of : Stmt := topS 4
abbrev N_consists_of : List Str := ["text", "characters", "character"]
theorem sc_consists_of : FnScope N_consists_of ["text", "characters"] (defScope s_consists_of) := ⟨rfl, rfl, rfl, by decide +kernel, rfl, by decide +kernel, by decide +kernel⟩
abbrev s_is_name : Stmt := topS 5
abbrev N_is_name : List Str := ["text"]
theorem sc_is_name : FnScope N_is_name ["text"] (defScope s_is_name) := ⟨rfl, rfl, rfl, by decide +kernel, rfl, by decide +kernel, by decide +kernel⟩
abbrev s_is_value : Stmt := topS 6
abbrev N_is_value : List Str := ["text"]
theorem sc_is_value : FnScope N_is_value ["text"] (defScope s_is_value) := ⟨rfl, rfl, rfl, by decide +kernel, rfl, by decide +kernel, by decide +kernel⟩
abbrev s_is_field_name : Stmt := topS 7
abbrev N_is_field_name : List Str := ["text"]
theorem sc_is_field_name : FnScope N_is_field_name ["text"] (defScope s_is_field_name) := ⟨rfl, rfl, rfl, by decide +kernel, rfl, by decide +kernel, by decide +kernel⟩
abbrev s_has_form : Stmt := topS 11
abbrev N_has_form : List Str := ["thing", "kind"]
theorem sc_has_form : FnScope N_has_form ["thing"] (defScope s_has_form) := ⟨rfl, rfl, rfl, by decide +kernel, rfl, by decide +kernel, by decide +kernel⟩
abbrev s_is_test_of : Stmt := topS 12
abbrev N_is_test_of : List Str := ["field", "value"]
theorem sc_is_test_of : FnScope N_is_test_of ["field", "value"] (defScope s_is_test_of) := ⟨rfl, rfl, rfl, by decide +kernel, rfl, by decide +kernel, by decide +kernel⟩
abbrev s_parts_of : Stmt := topS 13
abbrev N_parts_of : List Str := ["condition"]
theorem sc_parts_of : FnScope N_parts_of ["condition"] (defScope s_parts_of) := ⟨rfl, rfl, rfl, by decide +kernel, rfl, by decide +kernel, by decide +kernel⟩
abbrev s_is_condition : Stmt := topS 14
abbrev N_is_condition : List Str := ["thing", "waiting", "size", "part", "depth", "inner"]
theorem sc_is_condition : FnScope N_is_condition ["thing"] (defScope s_is_condition) := ⟨rfl, rfl, rfl, by decide +kernel, rfl, by decide +kernel, by decide +kernel⟩
abbrev s__law_bag : Stmt := topS 16
abbrev N__law_bag : List Str := ["_law_script"]
theorem sc__law_bag : FnScope N__law_bag ["_law_script"] (defScope s__law_bag) := ⟨rfl, rfl, rfl, by decide +kernel, rfl, by decide +kernel, by decide +kernel⟩
abbrev s__law_pull : Stmt := topS 17
abbrev N__law_pull : List Str := ["_law_bag_here", "_law_sides", "_law_twice", "_law_cell", "_law_digit"]
theorem sc__law_pull : FnScope N__law_pull ["_law_bag_here", "_law_sides"] (defScope s__law_pull) := ⟨rfl, rfl, rfl, by decide +kernel, rfl, by decide +kernel, by decide +kernel⟩
abbrev s__law_of : Stmt := topS 18
abbrev N__law_of : List Str := ["_law_bag_here", "_law_some"]
theorem sc__law_of : FnScope N__law_of ["_law_bag_here", "_law_some"] (defScope s__law_of) := ⟨rfl, rfl, rfl, by decide +kernel, rfl, by decide +kernel, by decide +kernel⟩
abbrev s__law_same : Stmt := topS 19
abbrev N__law_same : List Str := ["_law_found", "_law_due", "_law_one", "_law_two"]
theorem sc__law_same : FnScope N__law_same ["_law_found", "_law_due"] (defScope s__law_same) := ⟨rfl, rfl, rfl, by decide +kernel, rfl, by decide +kernel, by decide +kernel⟩
abbrev s__law_is_name : Stmt := topS 20
abbrev N__law_is_name : List Str := ["_law_text", "_law_sign"]
theorem sc__law_is_name : FnScope N__law_is_name ["_law_text"] (defScope s__law_is_name) := ⟨rfl, rfl, rfl, by decide +kernel, rfl, by decide +kernel, by decide +kernel⟩
abbrev s__law_is_value : Stmt := topS 21
abbrev N__law_is_value : List Str := ["_law_text", "_law_signs", "_law_sign"]
theorem sc__law_is_value : FnScope N__law_is_value ["_law_text"] (defScope s__law_is_value) := ⟨rfl, rfl, rfl, by decide +kernel, rfl, by decide +kernel, by decide +kernel⟩
abbrev s__law_names : Stmt := topS 22
abbrev N__law_names : List Str := ["_law_bag_here", "_law_many_here", "_law_letters", "_law_stem", "_law_found", "_law_k", "_law_spot", "_law_first", "_law_one"]
theorem sc__law_names : FnScope N__law_names ["_law_bag_here", "_law_many_here"] (defScope s__law_names) := ⟨rfl, rfl, rfl, by decide +kernel, rfl, by decide +kernel, by decide +kernel⟩
abbrev s__law_marks : Stmt := topS 23
abbrev N__law_marks : List Str := ["_law_bag_here", "_law_many_here", "_law_signs", "_law_stem", "_law_spot", "_law_first", "_law_k"]
theorem sc__law_marks : FnScope N__law_marks ["_law_bag_here", "_law_many_here"] (defScope s__law_marks) := ⟨rfl, rfl, rfl, by decide +kernel, rfl, by decide +kernel, by decide +kernel⟩
abbrev s__law_fields : Stmt := topS 24
abbrev N__law_fields : List Str := ["_law_bag_here", "_law_most", "_law_names_here", "_law_name"]
theorem sc__law_fields : FnScope N__law_fields ["_law_bag_here", "_law_most"] (defScope s__law_fields) := ⟨rfl, rfl, rfl, by decide +kernel, rfl, by decide +kernel, by decide +kernel⟩
abbrev s__law_test : Stmt := topS 25
abbrev N__law_test : List Str := ["_law_bag_here", "_law_fields_here", "_law_name", "_law_marks_here"]
theorem sc__law_test : FnScope N__law_test ["_law_bag_here", "_law_fields_here"] (defScope s__law_test) := ⟨rfl, rfl, rfl, by decide +kernel, rfl, by decide +kernel, by decide +kernel⟩
abbrev s__law_tree : Stmt := topS 26
abbrev N__law_tree : List Str := ["_law_bag_here", "_law_fields_here", "_law_deep", "_law_way", "_law_parts_here", "_law_k"]
theorem sc__law_tree : FnScope N__law_tree ["_law_bag_here", "_law_fields_here", "_law_deep"] (defScope s__law_tree) := ⟨rfl, rfl, rfl, by decide +kernel, rfl, by decide +kernel, by decide +kernel⟩
abbrev s__law_parts : Stmt := topS 27
abbrev N__law_parts : List Str := ["_law_tree_here"]
theorem sc__law_parts : FnScope N__law_parts ["_law_tree_here"] (defScope s__law_parts) := ⟨rfl, rfl, rfl, by decide +kernel, rfl, by decide +kernel, by decide +kernel⟩
abbrev s__law_many : Stmt := topS 28
abbrev N__law_many : List Str := ["_law_tree_here", "_law_part"]
theorem sc__law_many : FnScope N__law_many ["_law_tree_here"] (defScope s__law_many) := ⟨rfl, rfl, rfl, by decide +kernel, rfl, by decide +kernel, by decide +kernel⟩
abbrev s__law_is_tree : Stmt := topS 29
abbrev N__law_is_tree : List Str := ["_law_thing_z", "_law_room", "_law_rest", "_law_part"]
theorem sc__law_is_tree : FnScope N__law_is_tree ["_law_thing_z", "_law_room"] (defScope s__law_is_tree) := ⟨rfl, rfl, rfl, by decide +kernel, rfl, by decide +kernel, by decide +kernel⟩
abbrev s__law_bent_tree : Stmt := topS 30
abbrev N__law_bent_tree : List Str := ["_law_bag_here", "_law_tree_here", "_law_places", "_law_some", "_law_at"]
theorem sc__law_bent_tree : FnScope N__law_bent_tree ["_law_bag_here", "_law_tree_here"] (defScope s__law_bent_tree) := ⟨rfl, rfl, rfl, by decide +kernel, rfl, by decide +kernel, by decide +kernel⟩
abbrev s_law : Stmt := topS 31
abbrev N_law : List Str := ["_law_script", "_law_bag_here", "_law_fields_here", "_law_turn", "_law_step", "_law_wide", "_law_tree_here", "_law_bend", "_law_due", "_law_leaf", "_law_found", "_law_many_here"]
theorem sc_law : FnScope N_law ["_law_script"] (defScope s_law) := ⟨rfl, rfl, rfl, by decide +kernel, rfl, by decide +kernel, by decide +kernel⟩
structure Txt (K : PySem.W.Frag) (mg : Str → Option Value) : Prop where
  m_abs : mg "abs" = none
  m_all : mg "all" = none
  m_bool : mg "bool" = none
  m_int : mg "int" = none
  m_isinstance : mg "isinstance" = none
  m_len : mg "len" = none
  m_list : mg "list" = none
  m_max : mg "max" = none
  m_range : mg "range" = none
  m_str : mg "str" = none
  m_sum : mg "sum" = none
  m_tuple : mg "tuple" = none
  m_zip : mg "zip" = none
  c_MAX_NAME : Gv mg "MAX_NAME" (.int 8)
  c_NAME_CHARACTERS : Gv mg "NAME_CHARACTERS" (.str "abcdefghijklmnopqrstuvwxyz")
  c_VALUE_CHARACTERS : Gv mg "VALUE_CHARACTERS" (.str "abcdefghijklmnopqrstuvwxyz0123456789")
  c_MAX_SIZE : Gv mg "MAX_SIZE" (.int 30)
  c_MAX_DEPTH : Gv mg "MAX_DEPTH" (.int 8)
  h_consists_of : ∃ f fd, Fun K "consists_of" "consists_of" s_consists_of f fd ∧ Binds K fd ["text", "characters"] [] ∧ mg "consists_of" = some (.ref f)
  h_is_name : ∃ f fd, Fun K "is_name" "is_name" s_is_name f fd ∧ Binds K fd ["text"] [] ∧ mg "is_name" = some (.ref f)
  h_is_value : ∃ f fd, Fun K "is_value" "is_value" s_is_value f fd ∧ Binds K fd ["text"] [] ∧ mg "is_value" = some (.ref f)
  h_is_field_name : ∃ f fd, Fun K "is_field_name" "is_field_name" s_is_field_name f fd ∧ Binds K fd ["text"] [] ∧ mg "is_field_name" = some (.ref f)
  h_has_form : ∃ f fd, Fun K "has_form" "has_form" s_has_form f fd ∧ Binds K fd ["thing"] [] ∧ mg "has_form" = some (.ref f)
  h_is_test_of : ∃ f fd, Fun K "is_test_of" "is_test_of" s_is_test_of f fd ∧ Binds K fd ["field", "value"] [] ∧ mg "is_test_of" = some (.ref f)
  h_parts_of : ∃ f fd, Fun K "parts_of" "parts_of" s_parts_of f fd ∧ Binds K fd ["condition"] [] ∧ mg "parts_of" = some (.ref f)
  h_is_condition : ∃ f fd, Fun K "is_condition" "is_condition" s_is_condition f fd ∧ Binds K fd ["thing"] [] ∧ mg "is_condition" = some (.ref f) ∧ KwB fd ["thing"] ["thing"]
  h__law_bag : ∃ f fd, Fun K "_law_bag" "_law_bag" s__law_bag f fd ∧ Binds K fd ["_law_script"] [] ∧ mg "_law_bag" = some (.ref f)
  h__law_pull : ∃ f fd, Fun K "_law_pull" "_law_pull" s__law_pull f fd ∧ Binds K fd ["_law_bag_here", "_law_sides"] [] ∧ mg "_law_pull" = some (.ref f)
  h__law_of : ∃ f fd, Fun K "_law_of" "_law_of" s__law_of f fd ∧ Binds K fd ["_law_bag_here", "_law_some"] [] ∧ mg "_law_of" = some (.ref f)
  h__law_same : ∃ f fd, Fun K "_law_same" "_law_same" s__law_same f fd ∧ Binds K fd ["_law_found", "_law_due"] [] ∧ mg "_law_same" = some (.ref f)
  h__law_is_name : ∃ f fd, Fun K "_law_is_name" "_law_is_name" s__law_is_name f fd ∧ Binds K fd ["_law_text"] [] ∧ mg "_law_is_name" = some (.ref f)
  h__law_is_value : ∃ f fd, Fun K "_law_is_value" "_law_is_value" s__law_is_value f fd ∧ Binds K fd ["_law_text"] [] ∧ mg "_law_is_value" = some (.ref f)
  h__law_names : ∃ f fd, Fun K "_law_names" "_law_names" s__law_names f fd ∧ Binds K fd ["_law_bag_here", "_law_many_here"] [] ∧ mg "_law_names" = some (.ref f)
  h__law_marks : ∃ f fd, Fun K "_law_marks" "_law_marks" s__law_marks f fd ∧ Binds K fd ["_law_bag_here", "_law_many_here"] [] ∧ mg "_law_marks" = some (.ref f)
  h__law_fields : ∃ f fd, Fun K "_law_fields" "_law_fields" s__law_fields f fd ∧ Binds K fd ["_law_bag_here", "_law_most"] [] ∧ mg "_law_fields" = some (.ref f)
  h__law_test : ∃ f fd, Fun K "_law_test" "_law_test" s__law_test f fd ∧ Binds K fd ["_law_bag_here", "_law_fields_here"] [] ∧ mg "_law_test" = some (.ref f)
  h__law_tree : ∃ f fd, Fun K "_law_tree" "_law_tree" s__law_tree f fd ∧ Binds K fd ["_law_bag_here", "_law_fields_here", "_law_deep"] [] ∧ mg "_law_tree" = some (.ref f)
  h__law_parts : ∃ f fd, Fun K "_law_parts" "_law_parts" s__law_parts f fd ∧ Binds K fd ["_law_tree_here"] [] ∧ mg "_law_parts" = some (.ref f)
  h__law_many : ∃ f fd, Fun K "_law_many" "_law_many" s__law_many f fd ∧ Binds K fd ["_law_tree_here"] [] ∧ mg "_law_many" = some (.ref f)
  h__law_is_tree : ∃ f fd, Fun K "_law_is_tree" "_law_is_tree" s__law_is_tree f fd ∧ Binds K fd ["_law_thing_z", "_law_room"] [] ∧ mg "_law_is_tree" = some (.ref f)
  h__law_bent_tree : ∃ f fd, Fun K "_law_bent_tree" "_law_bent_tree" s__law_bent_tree f fd ∧ Binds K fd ["_law_bag_here", "_law_tree_here"] [] ∧ mg "_law_bent_tree" = some (.ref f)
section
variable {P : Program} {w : World} {K : PySem.W.Frag} {mg : Str → Option Value} {base : Heap}
theorem ok_consists_of {f : Addr} {fd : FuncData} (T : Txt K mg) (F : Fun K "consists_of" "consists_of" s_consists_of f fd) : FnOk P w K mg base CX0 1 f fd ["text", "characters"] sp_consists := by
  refine F.ok sc_consists_of (fun vs H Q E h => ?_) (fun cdv A outer s H vs Q E hr h => ?_)
  · obtain ⟨t, cs, rfl, _⟩ := h
    rfl
  obtain ⟨t, cs, rfl, ht, q⟩ := h
  refine ⟨_, (pss_one (ps_ret (pe_and (pe_chain op_le op_le pe_int (pe_callB call_len_str (by rfl) T.m_len PySem.boot_len (pa_cons (pv 0) pa_nil)) (pe_gv (by rfl) T.c_MAX_NAME)) (pe_one (pe_callB (cr_allK (K := K) rfl) (by rfl) T.m_all (by decide +kernel) (pa_cons (pe_lc (own := [("character", 2)]) (g := gName 2) (by rfl) sc_consists_of.nd (pi_str (pv 0)) (blkOk_by (own := [("character", 2)]) (N := N_consists_of) (sc := defScope s_consists_of) (by decide +kernel)) (fun _ _ _ _ _ => pg_name (i := 2) sc_consists_of.nd rfl (.inl rfl)) (fun _ _ _ _ _ => pts_nil) (fun _ _ _ _ _ => (pe_cmpR op_in_sign (pv 2) (pv 1) (by rfl)))) pa_nil)))))), ?_⟩
  refine ⟨_, rfl, t, rfl, szl (Nat.le_trans ht (by decide)), 1, _, rfl, rfl, _, rfl, ?_⟩
  refine ite2 (fun c1 => ?_) (fun c1 => ?_)
  · refine ⟨_, _, rfl, rfl, _, rfl, ite2 (fun c2 => ?_) (fun c2 => ?_)⟩
    · refine ⟨_, rfl, t, rfl, fun D hD => ?_⟩
      refine lc_val walk_str hD (fun i => .bl (decide (t.cps.toList.getD i 0 ∈ cs.cps.toList))) (fun _ _ => trivial) (Nat.lt_of_le_of_lt (len_le t ht) (by decide)) (fun i x H1 H' Qe Z hi sm hq hy => ?_) (fun H1 sm hL => ?_)
      · obtain ⟨rfl, c, hc, rfl⟩ := hy
        refine ⟨rfl, yes ?_⟩
        refine ⟨_, rfl, _, rfl, c, cs, rfl, rfl, ?_⟩
        rw [← sign_at hc]
        exact hq _ (Same.refl _)
      · exact all_end rfl c1 c2 hL (q H1 sm)
    · have e : consists t cs = false := by
        unfold consists
        rw [c1, Bool.eq_false_iff.mpr c2]
        rfl
      exact e ▸ q _ (Same.refl _)
  · have e : consists t cs = false := by
      unfold consists
      rw [Bool.eq_false_iff.mpr c1]
      rfl
    exact ⟨_, rfl, iteF (e ▸ q _ (Same.refl _))⟩
theorem ok_is_name {f : Addr} {fd : FuncData} (T : Txt K mg) (F : Fun K "is_name" "is_name" s_is_name f fd) : FnOk P w K mg base CX0 2 f fd ["text"] (sp_word nameC) := by
  obtain ⟨f_consists_of, fd_consists_of, F_consists_of, b_consists_of, g_consists_of⟩ := T.h_consists_of
  have G_consists_of := ok_consists_of (P := P) (w := w) (base := base) T F_consists_of
  refine F.ok sc_is_name (fun vs H Q E h => ?_) (fun cdv A outer s H vs Q E hr h => ?_)
  · obtain ⟨t, rfl, _⟩ := h
    rfl
  obtain ⟨t, rfl, ht, q⟩ := h
  have hr_consists_of := hr
  refine ⟨_, (pss_one (ps_ret (pe_call G_consists_of hr_consists_of (by rfl) g_consists_of F_consists_of.kp b_consists_of .nil pass0 (pa_cons (pv 0) (pa_cons (pe_gv (by rfl) T.c_NAME_CHARACTERS) pa_nil))))), ?_⟩
  exact ⟨_, rfl, t, _, rfl, ht, q⟩
theorem ok_is_value {f : Addr} {fd : FuncData} (T : Txt K mg) (F : Fun K "is_value" "is_value" s_is_value f fd) : FnOk P w K mg base CX0 2 f fd ["text"] (sp_word valueC) := by
  obtain ⟨f_consists_of, fd_consists_of, F_consists_of, b_consists_of, g_consists_of⟩ := T.h_consists_of
  have G_consists_of := ok_consists_of (P := P) (w := w) (base := base) T F_consists_of
  refine F.ok sc_is_value (fun vs H Q E h => ?_) (fun cdv A outer s H vs Q E hr h => ?_)
  · obtain ⟨t, rfl, _⟩ := h
    rfl
  obtain ⟨t, rfl, ht, q⟩ := h
  have hr_consists_of := hr
  refine ⟨_, (pss_one (ps_ret (pe_call G_consists_of hr_consists_of (by rfl) g_consists_of F_consists_of.kp b_consists_of .nil pass0 (pa_cons (pv 0) (pa_cons (pe_gv (by rfl) T.c_VALUE_CHARACTERS) pa_nil))))), ?_⟩
  exact ⟨_, rfl, t, _, rfl, ht, q⟩
theorem ok__law_is_name {f : Addr} {fd : FuncData} (T : Txt K mg) (F : Fun K "_law_is_name" "_law_is_name" s__law_is_name f fd) : FnOk P w K mg base CX0 1 f fd ["_law_text"] (sp_word nameC) := by
  refine F.ok sc__law_is_name (fun vs H Q E h => ?_) (fun cdv A outer s H vs Q E hr h => ?_)
  · obtain ⟨t, rfl, _⟩ := h
    rfl
  obtain ⟨t, rfl, ht, q⟩ := h
  refine ⟨_, (pss_one (ps_ret (pe_and (pe_chain op_le op_le pe_int (pe_callB call_len_str (by rfl) T.m_len PySem.boot_len (pa_cons (pv 0) pa_nil)) pe_int) (pe_one (pe_callB (cr_allK (K := K) rfl) (by rfl) T.m_all (by decide +kernel) (pa_cons (pe_lc (own := [("_law_sign", 1)]) (g := gName 1) (by rfl) sc__law_is_name.nd (pi_str (pv 0)) (blkOk_by (own := [("_law_sign", 1)]) (N := N__law_is_name) (sc := defScope s__law_is_name) (by decide +kernel)) (fun _ _ _ _ _ => pg_name (i := 1) sc__law_is_name.nd rfl (.inl rfl)) (fun _ _ _ _ _ => pts_nil) (fun _ _ _ _ _ => (pe_cmpR op_in_sign (pv 1) pe_str (by rfl)))) pa_nil)))))), ?_⟩
  refine ⟨_, rfl, t, rfl, szl (Nat.le_trans ht (by decide)), 1, _, rfl, rfl, _, rfl, ?_⟩
  refine ite2 (fun c1 => ?_) (fun c1 => ?_)
  · refine ⟨_, _, rfl, rfl, _, rfl, ite2 (fun c2 => ?_) (fun c2 => ?_)⟩
    · refine ⟨_, rfl, t, rfl, fun D hD => ?_⟩
      refine lc_val walk_str hD (fun i => .bl (decide (t.cps.toList.getD i 0 ∈ nameC.cps.toList))) (fun _ _ => trivial) (Nat.lt_of_le_of_lt (len_le t ht) (by decide)) (fun i x H1 H' Qe Z hi sm hq hy => ?_) (fun H1 sm hL => ?_)
      · obtain ⟨rfl, c, hc, rfl⟩ := hy
        refine ⟨rfl, yes ?_⟩
        refine ⟨_, rfl, c, nameC, rfl, rfl, ?_⟩
        rw [← sign_at hc]
        exact hq _ (Same.refl _)
      · exact all_end rfl c1 c2 hL (q H1 sm)
    · have e : consists t nameC = false := by
        unfold consists
        rw [c1, Bool.eq_false_iff.mpr c2]
        rfl
      exact e ▸ q _ (Same.refl _)
  · have e : consists t nameC = false := by
      unfold consists
      rw [Bool.eq_false_iff.mpr c1]
      rfl
    exact ⟨_, rfl, iteF (e ▸ q _ (Same.refl _))⟩
theorem ok__law_is_value {f : Addr} {fd : FuncData} (T : Txt K mg) (F : Fun K "_law_is_value" "_law_is_value" s__law_is_value f fd) : FnOk P w K mg base CX0 1 f fd ["_law_text"] (sp_word valueC) := by
  refine F.ok sc__law_is_value (fun vs H Q E h => ?_) (fun cdv A outer s H vs Q E hr h => ?_)
  · obtain ⟨t, rfl, _⟩ := h
    rfl
  obtain ⟨t, rfl, ht, q⟩ := h
  refine ⟨_, (pss_cons (ps_set (i := 1) sc__law_is_value.nd rfl (.inr rfl) pe_str)
      (pss_one (ps_ret (pe_and (pe_chain op_le op_le pe_int (pe_callB call_len_str (by rfl) T.m_len PySem.boot_len (pa_cons (pv 0) pa_nil)) pe_int) (pe_one (pe_callB (cr_allK (K := K) rfl) (by rfl) T.m_all (by decide +kernel) (pa_cons (pe_lc (own := [("_law_sign", 2)]) (g := gName 2) (by rfl) sc__law_is_value.nd (pi_str (pv 0)) (blkOk_by (own := [("_law_sign", 2)]) (N := N__law_is_value) (sc := defScope s__law_is_value) (by decide +kernel)) (fun _ _ _ _ _ => pg_name (i := 2) sc__law_is_value.nd rfl (.inl rfl)) (fun _ _ _ _ _ => pts_nil) (fun _ _ _ _ _ => (pe_cmpR op_in_sign (pv 2) (pv 1) (by rfl)))) pa_nil))))))), ?_⟩
  refine ⟨_, rfl, t, rfl, szl (Nat.le_trans ht (by decide)), 1, _, rfl, rfl, _, rfl, ?_⟩
  refine ite2 (fun c1 => ?_) (fun c1 => ?_)
  · refine ⟨_, _, rfl, rfl, _, rfl, ite2 (fun c2 => ?_) (fun c2 => ?_)⟩
    · refine ⟨_, rfl, t, rfl, fun D hD => ?_⟩
      refine lc_val walk_str hD (fun i => .bl (decide (t.cps.toList.getD i 0 ∈ valueC.cps.toList))) (fun _ _ => trivial) (Nat.lt_of_le_of_lt (len_le t ht) (by decide)) (fun i x H1 H' Qe Z hi sm hq hy => ?_) (fun H1 sm hL => ?_)
      · obtain ⟨rfl, c, hc, rfl⟩ := hy
        refine ⟨rfl, yes ?_⟩
        refine ⟨_, rfl, _, rfl, c, valueC, rfl, rfl, ?_⟩
        rw [← sign_at hc]
        exact hq _ (Same.refl _)
      · exact all_end rfl c1 c2 hL (q H1 sm)
    · have e : consists t valueC = false := by
        unfold consists
        rw [c1, Bool.eq_false_iff.mpr c2]
        rfl
      exact e ▸ q _ (Same.refl _)
  · have e : consists t valueC = false := by
      unfold consists
      rw [Bool.eq_false_iff.mpr c1]
      rfl
    exact ⟨_, rfl, iteF (e ▸ q _ (Same.refl _))⟩
theorem seqI {t1 t2 : TS} {D : Ends} {σ : L2.St} {H : Hp} (I : L2.St → Hp → Prop) (h2 : ∀ σ' H', I σ' H' → t2 D σ' H') (h1 : ∀ N : L2.St → Hp → Prop, (∀ σ' H', I σ' H' → N σ' H') → t1 { D with nx := N } σ H) : tSeq t1 t2 D σ H := h1 (t2 D) h2
theorem cut_ints (ns : List Int) (lo hi : Option Int) : ∃ ms : List Int, cutV (ns.map V.int) lo hi = ms.map V.int ∧ ms.length ≤ ns.length := by
  refine ⟨(ns.drop (HT.sIx (ns.map V.int).length 0 lo)).take (HT.sIx (ns.map V.int).length (ns.map V.int).length hi - HT.sIx (ns.map V.int).length 0 lo), ?_, ?_⟩
  · unfold cutV
    rw [List.map_take, List.map_drop]
  · rw [List.length_take, List.length_drop]
    omega
theorem at_int {ns : List Int} {i : Int} (h0 : 0 ≤ i) (h1 : i < ns.length) : ∃ c : Int, atI (ns.map V.int) i = some (.int c) := by
  have hk : i.toNat < ns.length := by omega
  have ek : i = ((i.toNat : Nat) : Int) := by omega
  have q : atI (ns.map V.int) ((i.toNat : Nat) : Int) = some (.int ns[i.toNat]) := atI_nat (by rw [List.getElem?_map, List.getElem?_eq_getElem hk] <;> rfl)
  rw [← ek] at q
  exact ⟨_, q⟩
theorem fmod_in {a n : Int} (h : 0 < n) : 0 ≤ a.fmod n ∧ a.fmod n < n := ⟨Int.fmod_nonneg_of_pos _ h, Int.fmod_lt_of_pos _ h⟩
theorem fdiv_in {a n : Int} (h : 0 < n) (h0 : 0 ≤ a) : 0 ≤ a.fdiv n := by
  rw [Int.fdiv_eq_ediv_of_nonneg _ (by omega)]
  exact Int.ediv_nonneg h0 (by omega)
theorem bag_at {H : Hp} {b l : Addr} {ns : List Int} {i g t : Int} (nl : l ≠ b) (hl : H l = some (.lst (ns.map V.int))) (h : ns.length ≤ 63) (h1 : 0 ≤ i) (h2 : 0 ≤ g) (h3 : 0 ≤ t) (h4 : t < 2147483647) : Bag (upd H b (.lst [.ref l, .int i, .int g, .int t])) b l :=
  ⟨ns, i, g, t, upd_same, by rw [upd_ne nl]; exact hl, h, h1, h2, h3, h4⟩
theorem bag_ne {b l : Addr} {ns : List Int} {i g s : Int} {H : Hp} (h : H b = some (.lst [.ref l, .int i, .int g, .int s])) (h' : H l = some (.lst (ns.map V.int))) : l ≠ b := by
  refine ne_of h' h fun e => ?_
  cases ns with
  | nil => cases e
  | cons n r => cases (List.cons.inj (HO.lst.inj e)).1
theorem ok__law_bag {f : Addr} {fd : FuncData} (T : Txt K mg) (F : Fun K "_law_bag" "_law_bag" s__law_bag f fd) : FnOk P w K mg base CX0 1 f fd ["_law_script"] (sp_bag K) := by
  refine F.ok sc__law_bag (fun vs H Q E h => ?_) (fun cdv A outer s H vs Q E hr h => ?_)
  · obtain ⟨a, ns, rfl, _⟩ := h
    rfl
  obtain ⟨a, ns, rfl, hS, hn, q⟩ := h
  refine ⟨_, (pss_one (ps_ret (pe_lst (pa_cons (pe_callTy (call_list_ofK (K := K)) (by rfl) T.m_list (by decide +kernel) (pa_cons (pe_slice (sl_listK (K := K)) (pv 0) po_none (po_some pe_int)) pa_nil)) (pa_cons pe_int (pa_cons pe_int (pa_cons pe_int pa_nil))))))), ?_⟩
  obtain ⟨ms, em, hm⟩ := cut_ints ns none (some 63)
  refine ⟨_, rfl, 63, rfl, a, _, rfl, hS, fun p hp => ⟨p, ms.map V.int, rfl, .inl (.inl (.inl (by rw [upd_same, em]))), fun l hl => ⟨by show 4 ≤ sizeLine; decide, fun b hb => ?_⟩⟩⟩
  have s1 : Same H (upd H p (.lst (cutV (ns.map V.int) none (some 63)))) := same_new hp
  have s2 := same_new (o := .lst (ms.map V.int)) hl
  have s3 := same_new (o := .lst [V.ref l, .int 0, .int 0, .int 9485]) hb
  exact q b l _ ⟨ms, 0, 0, 9485, upd_same, s3 _ _ upd_same, by omega, by omega, by omega, by omega, by omega⟩ ((s1.trans s2).free hb) ((s1.trans s2).trans s3)
theorem ok__law_pull {f : Addr} {fd : FuncData} (T : Txt K mg) (F : Fun K "_law_pull" "_law_pull" s__law_pull f fd) : FnOk P w K mg base CX0 1 f fd ["_law_bag_here", "_law_sides"] sp_pull := by
  refine F.ok sc__law_pull (fun vs H Q E h => ?_) (fun cdv A outer s H vs Q E hr h => ?_)
  · obtain ⟨b, l, n, rfl, _⟩ := h
    rfl
  obtain ⟨b, l, n, rfl, ⟨ns, i, g, t, hb, hl, hlen, hi, hg, ht, ht'⟩, hn1, hn2, q⟩ := h
  have nl : l ≠ b := bag_ne hb hl
  refine ⟨_, (pss_cons (ps_if (PW.pt (pw_and (pt_cmpR op_eq (pe_ix (ix_listK (K := K)) (pv 0) pe_int (fun _ _ => rfl)) pe_int (nomark _)) (pw_and1 (pt_cmpR op_lt (pe_ix (ix_listK (K := K)) (pv 0) pe_int (fun _ _ => rfl)) (pe_callB (call_len_seqK (K := K)) (by rfl) T.m_len PySem.boot_len (pa_cons (pe_ix (ix_listK (K := K)) (pv 0) pe_int (fun _ _ => rfl)) pa_nil)) (nomark _))))) (pss_cons (ps_set (i := 3) sc__law_pull.nd rfl (.inl rfl) (pe_ix (ix_listK (K := K)) (pe_ix (ix_listK (K := K)) (pv 0) pe_int (fun _ _ => rfl)) (pe_ix (ix_listK (K := K)) (pv 0) pe_int (fun _ _ => rfl)) (fun _ _ => rfl)))
      (pss_cons (ps_asg (pe_op op_add (pe_ix (ix_listK (K := K)) (pv 0) pe_int (fun _ _ => rfl)) pe_int) (pg_sub (pv 0) pe_int set_list))
      (pss_one (ps_if (pt_cmpR op_ge (pe_callB call_abs (by rfl) T.m_abs (by decide +kernel) (pa_cons (pv 3) pa_nil)) (pe_op op_pow pe_int pe_int) (nomark _)) (pss_one (ps_asg (pe_callB call_abs (by rfl) T.m_abs (by decide +kernel) (pa_cons (pv 3) pa_nil)) (pg_sub (pv 0) pe_int set_list))) (pss_one (ps_asg (pe_op op_modN (pe_op op_add (pe_op op_add (pe_op op_mul (pe_ix (ix_listK (K := K)) (pv 0) pe_int (fun _ _ => rfl)) pe_int) (pe_op op_mul (pe_op op_modN (pv 3) pe_int) pe_int)) pe_int) pe_int) (pg_sub (pv 0) pe_int set_list))))))) pss_nil)
      (pss_cons (ps_if (pt_cmpR op_gt (pe_ix (ix_listK (K := K)) (pv 0) pe_int (fun _ _ => rfl)) pe_int (nomark _)) (pss_cons (ps_set (i := 4) sc__law_pull.nd rfl (.inl rfl) (pe_op op_modN (pe_ix (ix_listK (K := K)) (pv 0) pe_int (fun _ _ => rfl)) (pv 1)))
      (pss_cons (ps_asg (pe_op op_fdivN (pe_ix (ix_listK (K := K)) (pv 0) pe_int (fun _ _ => rfl)) (pv 1)) (pg_sub (pv 0) pe_int set_list))
      (pss_one (ps_ret (pv 4))))) pss_nil)
      (pss_cons (ps_set (i := 2) sc__law_pull.nd rfl (.inl rfl) (pe_op op_modN (pe_op op_mul (pe_ix (ix_listK (K := K)) (pv 0) pe_int (fun _ _ => rfl)) (pe_ix (ix_listK (K := K)) (pv 0) pe_int (fun _ _ => rfl))) pe_int))
      (pss_cons (ps_asg (pe_op op_modN (pe_op op_add (pe_op op_add (pe_op op_mul (pv 2) pe_int) (pe_op op_mul (pe_ix (ix_listK (K := K)) (pv 0) pe_int (fun _ _ => rfl)) pe_int)) pe_int) pe_int) (pg_sub (pv 0) pe_int set_list))
      (pss_one (ps_ret (pe_op op_modN (pe_op op_fdivN (pe_ix (ix_listK (K := K)) (pv 0) pe_int (fun _ _ => rfl)) pe_int) (pv 1)))))))), ?_⟩
  refine seqI (fun σ' H' => ∃ (x : Option V) (i g t : Int), σ' = [some (.ref b), some (.int n), none, x, none] ∧ H' = upd H b (.lst [.ref l, .int i, .int g, .int t]) ∧ 0 ≤ i ∧ 0 ≤ g ∧ 0 ≤ t ∧ t < 2147483647) ?_ ?_
  · rintro σ' H' ⟨x, i, g, t, rfl, rfl, hi, hg, ht, ht'⟩
    have hb1 : (upd H b (.lst [.ref l, .int i, .int g, .int t])) b = some (.lst [.ref l, .int i, .int g, .int t]) := upd_same
    refine ⟨_, rfl, b, _, _, _, rfl, rfl, SqL.of hb1, rfl, _, _, rfl, rfl, _, rfl, ite2 (fun c => ?_) (fun c => ?_)⟩
    · have e := fmod_in (a := g) (n := n) (by omega)
      refine ⟨_, rfl, b, _, _, _, rfl, rfl, SqL.of hb1, rfl, _, rfl, _, _, rfl, rfl, by omega, ?_⟩
      refine ⟨_, rfl, b, _, _, _, rfl, rfl, SqL.of hb1, rfl, _, rfl, _, _, rfl, rfl, ⟨by omega, by omega⟩, ?_⟩
      refine ⟨_, rfl, b, _, 2, 2, rfl, rfl, hb1, rfl, _, rfl, ?_⟩
      rw [upd_upd]
      exact q _ _ e.1 e.2 (Bx.bagstep (bag_at nl hl hlen hi (fdiv_in (by omega) hg) ht ht'))
    · refine ⟨_, rfl, b, _, _, _, rfl, rfl, SqL.of hb1, rfl, _, rfl, b, _, _, _, rfl, rfl, SqL.of hb1, rfl, _, _, rfl, rfl, .inl ⟨by omega, by omega⟩, _, _, rfl, rfl, by omega, ?_⟩
      have e1 := fmod_in (a := t * t) (n := 2147483629) (by omega)
      refine ⟨_, rfl, _, _, rfl, rfl, .inl ⟨by omega, by omega⟩, _, rfl, b, _, _, _, rfl, rfl, SqL.of hb1, rfl, _, _, rfl, rfl, .inl ⟨by omega, by omega⟩, _, _, rfl, rfl, _, _, rfl, rfl, _, _, rfl, rfl, by omega, ?_⟩
      have e2 := fmod_in (a := (t * t).fmod 2147483629 * 16807 + t * 40692 + 12345) (n := 2147483647) (by omega)
      refine ⟨_, rfl, b, _, 3, 3, rfl, rfl, hb1, rfl, ?_⟩
      refine ⟨_, rfl, b, _, 3, _, rfl, rfl, SqL.of upd_same, rfl, _, _, rfl, rfl, ⟨by omega, by omega⟩, _, rfl, _, _, rfl, rfl, by omega, ?_⟩
      have e3 := fmod_in (a := (((t * t).fmod 2147483629 * 16807 + t * 40692 + 12345).fmod 2147483647).fdiv 64) (n := n) (by omega)
      rw [upd_upd]
      exact q _ _ e3.1 e3.2 (Bx.bagstep (bag_at nl hl hlen hi hg e2.1 e2.2))
  · intro N hN
    refine ⟨_, rfl, b, _, _, _, rfl, rfl, SqL.of hb, rfl, rfl, _, rfl, ite2 (fun c => ?_) (fun c => ?_)⟩
    · refine ⟨_, rfl, b, _, _, _, rfl, rfl, SqL.of hb, rfl, _, rfl, b, _, _, _, rfl, rfl, SqL.of hb, rfl, l, _, rfl, .inl (SqL.of hl), _, _, rfl, rfl, _, rfl, ite2 (fun c2 => ?_) (fun c2 => ?_)⟩
      · have c3 : i < ns.length := by
          have := of_decide_eq_true c2
          rw [List.length_map] at this
          exact this
        obtain ⟨v, hv⟩ := at_int hi c3
        refine ⟨_, rfl, b, _, _, _, rfl, rfl, SqL.of hb, rfl, _, rfl, b, _, _, _, rfl, rfl, SqL.of hb, rfl, l, _, i, .int v, rfl, rfl, SqL.of hl, hv, ?_⟩
        refine ⟨_, rfl, b, _, _, _, rfl, rfl, SqL.of hb, rfl, _, _, rfl, rfl, _, rfl, b, _, 1, 1, rfl, rfl, hb, rfl, ?_⟩
        refine ⟨_, rfl, v, rfl, 10, 18, rfl, rfl, ⟨by decide, by decide, by decide⟩, _, _, rfl, rfl, _, rfl, ite2 (fun c4 => ?_) (fun c4 => ?_)⟩
        · refine ⟨_, rfl, v, rfl, _, rfl, b, _, 2, 2, rfl, rfl, upd_same, rfl, ?_⟩
          refine hN _ _ ⟨_, i + 1, (if v < 0 then -v else v), t, rfl, ?_, by omega, by split <;> omega, ht, ht'⟩
          rw [upd_upd]
          rfl
        · have e1 := fmod_in (a := v) (n := 1000003) (by omega)
          have e2 := fmod_in (a := t * 48271 + v.fmod 1000003 * 911 + 7) (n := 2147483647) (by omega)
          refine ⟨_, rfl, b, _, 3, .int t, rfl, rfl, SqL.of upd_same, rfl, _, _, rfl, rfl, .inl ⟨by omega, by omega⟩, _, rfl, _, _, rfl, rfl, by omega, _, _, rfl, rfl, .inl ⟨by omega, by omega⟩, _, _, rfl, rfl, _, _, rfl, rfl, _, _, rfl, rfl, by omega, ?_⟩
          refine ⟨_, rfl, b, _, 3, 3, rfl, rfl, upd_same, rfl, ?_⟩
          refine hN _ _ ⟨_, i + 1, g, _, rfl, ?_, by omega, hg, e2.1, e2.2⟩
          rw [upd_upd]
          rfl
      · exact hN _ _ ⟨none, i, g, t, rfl, (upd_id hb).symm, hi, hg, ht, ht'⟩
    · exact hN _ _ ⟨none, i, g, t, rfl, (upd_id hb).symm, hi, hg, ht, ht'⟩
theorem ok__law_ofS {f : Addr} {fd : FuncData} (T : Txt K mg) (F : Fun K "_law_of" "_law_of" s__law_of f fd) : FnOk P w K mg base CX0 2 f fd ["_law_bag_here", "_law_some"] sp_ofS := by
  obtain ⟨f__law_pull, fd__law_pull, F__law_pull, b__law_pull, g__law_pull⟩ := T.h__law_pull
  have G__law_pull := ok__law_pull (P := P) (w := w) (base := base) T F__law_pull
  refine F.ok sc__law_of (fun vs H Q E h => ?_) (fun cdv A outer s H vs Q E hr h => ?_)
  · obtain ⟨b, l, z, rfl, _⟩ := h
    rfl
  obtain ⟨b, l, z, rfl, hb, h1, h2, q⟩ := h
  have hr__law_pull := hr
  refine ⟨_, (pss_one (ps_ret (pe_ix ix_str (pv 1) (pe_call G__law_pull hr__law_pull (by rfl) g__law_pull F__law_pull.kp b__law_pull .nil pass0 (pa_cons (pv 0) (pa_cons (pe_callB call_len_str (by rfl) T.m_len PySem.boot_len (pa_cons (pv 1) pa_nil)) pa_nil))) (fun _ _ => rfl)))), ?_⟩
  refine ⟨_, rfl, _, rfl, _, rfl, z, rfl, szl h2, b, l, _, rfl, hb, by omega, by omega, fun d H' d0 d1 bx => ?_⟩
  have hk : d.toNat < z.cps.toList.length := by
    have : z.cps.toList.length = z.length := rfl
    omega
  have e : atI z.cps.toList d = some z.cps.toList[d.toNat] := by
    have q : atI z.cps.toList ((d.toNat : Nat) : Int) = some z.cps.toList[d.toNat] := atI_nat (List.getElem?_eq_getElem hk)
    rwa [show ((d.toNat : Nat) : Int) = d by omega] at q
  exact ⟨z, d, _, rfl, rfl, szl h2, e, q _ H' (List.getElem_mem hk) bx⟩
theorem ok__law_same_step {f : Addr} {fd : FuncData} {n : Nat} (T : Txt K mg) (F : Fun K "_law_same" "_law_same" s__law_same f fd) (G__law_same : FnOk P w K mg base CX0 n f fd ["_law_found", "_law_due"] (sp_same K n)) (b__law_same : Binds K fd ["_law_found", "_law_due"] []) (g__law_same : mg "_law_same" = some (.ref f)) : FnOk P w K mg base CX0 (n + 1) f fd ["_law_found", "_law_due"] (sp_same K (n + 1)) := by
  have F__law_same := F
  refine F.ok sc__law_same (fun vs H Q E h => ?_) (fun cdv A outer s H vs Q E hr h => ?_)
  · obtain ⟨x, y, d, rfl, _⟩ := h
    rfl
  obtain ⟨x, y, d, rfl, hx, hy, hd, q⟩ := h
  have hr__law_same := hr
  refine ⟨_, (pss_cons (ps_if (pt_cmpR op_isN (pv 1) pe_non (nomark _)) (pss_one (ps_ret (pe_cmpR op_isN (pv 0) pe_non (nomark _)))) pss_nil)
      (pss_cons (ps_if (PW.pt (pw_or (pt_val (pe_callB (call_isiK' (K := K)) (by rfl) T.m_isinstance (by decide +kernel) (pa_cons (pv 1) (pa_cons (pe_bltn (v := .ty "bool") (by rfl) T.m_bool (by decide +kernel) rfl) pa_nil)))) (pw_or1 (pt_val (pe_callB (call_isiK' (K := K)) (by rfl) T.m_isinstance (by decide +kernel) (pa_cons (pv 0) (pa_cons (pe_bltn (v := .ty "bool") (by rfl) T.m_bool (by decide +kernel) rfl) pa_nil))))))) (pss_one (ps_ret (pe_and (pe_callB (call_isiK' (K := K)) (by rfl) T.m_isinstance (by decide +kernel) (pa_cons (pv 1) (pa_cons (pe_bltn (v := .ty "bool") (by rfl) T.m_bool (by decide +kernel) rfl) pa_nil))) (pe_and (pe_callB (call_isiK' (K := K)) (by rfl) T.m_isinstance (by decide +kernel) (pa_cons (pv 0) (pa_cons (pe_bltn (v := .ty "bool") (by rfl) T.m_bool (by decide +kernel) rfl) pa_nil))) (pe_one (pe_cmpR op_eq (pv 0) (pv 1) (nomark _))))))) pss_nil)
      (pss_cons (ps_if (PW.pt (pw_or (pt_val (pe_callB (call_isiK' (K := K)) (by rfl) T.m_isinstance (by decide +kernel) (pa_cons (pv 1) (pa_cons (pe_bltn (v := .ty "int") (by rfl) T.m_int (by decide +kernel) rfl) pa_nil)))) (pw_or1 (pt_val (pe_callB (call_isiK' (K := K)) (by rfl) T.m_isinstance (by decide +kernel) (pa_cons (pv 1) (pa_cons (pe_bltn (v := .ty "str") (by rfl) T.m_str (by decide +kernel) rfl) pa_nil))))))) (pss_one (ps_ret (pe_and (pe_cmpR op_eq (pe_callB (call_isiK' (K := K)) (by rfl) T.m_isinstance (by decide +kernel) (pa_cons (pv 0) (pa_cons (pe_bltn (v := .ty "int") (by rfl) T.m_int (by decide +kernel) rfl) pa_nil))) (pe_callB (call_isiK' (K := K)) (by rfl) T.m_isinstance (by decide +kernel) (pa_cons (pv 1) (pa_cons (pe_bltn (v := .ty "int") (by rfl) T.m_int (by decide +kernel) rfl) pa_nil))) (nomark _)) (pe_and (pe_cmpR op_eq (pe_callB (call_isiK' (K := K)) (by rfl) T.m_isinstance (by decide +kernel) (pa_cons (pv 0) (pa_cons (pe_bltn (v := .ty "str") (by rfl) T.m_str (by decide +kernel) rfl) pa_nil))) (pe_callB (call_isiK' (K := K)) (by rfl) T.m_isinstance (by decide +kernel) (pa_cons (pv 1) (pa_cons (pe_bltn (v := .ty "str") (by rfl) T.m_str (by decide +kernel) rfl) pa_nil))) (nomark _)) (pe_one (pe_cmpR op_eq (pv 0) (pv 1) (nomark _))))))) pss_nil)
      (pss_cons (ps_if (PW.pt (pw_or (pt_cmpR op_ne (pe_callB (call_isiK' (K := K)) (by rfl) T.m_isinstance (by decide +kernel) (pa_cons (pv 1) (pa_cons (pe_bltn (v := .ty "list") (by rfl) T.m_list (by decide +kernel) rfl) pa_nil))) (pe_callB (call_isiK' (K := K)) (by rfl) T.m_isinstance (by decide +kernel) (pa_cons (pv 0) (pa_cons (pe_bltn (v := .ty "list") (by rfl) T.m_list (by decide +kernel) rfl) pa_nil))) (nomark _)) (pw_or1 (pt_cmpR op_ne (pe_callB (call_isiK' (K := K)) (by rfl) T.m_isinstance (by decide +kernel) (pa_cons (pv 1) (pa_cons (pe_bltn (v := .ty "tuple") (by rfl) T.m_tuple (by decide +kernel) rfl) pa_nil))) (pe_callB (call_isiK' (K := K)) (by rfl) T.m_isinstance (by decide +kernel) (pa_cons (pv 0) (pa_cons (pe_bltn (v := .ty "tuple") (by rfl) T.m_tuple (by decide +kernel) rfl) pa_nil))) (nomark _))))) (pss_one (ps_ret pe_bl)) pss_nil)
      (pss_one (ps_ret (pe_and (pe_cmpR op_eq (pe_callB (call_len_seqK (K := K)) (by rfl) T.m_len PySem.boot_len (pa_cons (pv 0) pa_nil)) (pe_callB (call_len_seqK (K := K)) (by rfl) T.m_len PySem.boot_len (pa_cons (pv 1) pa_nil)) (nomark _)) (pe_one (pe_callB (cr_allK (K := K) rfl) (by rfl) T.m_all (by decide +kernel) (pa_cons (pe_lc (own := [("_law_one", 2), ("_law_two", 3)]) (g := gTup K 2 (gCons (gName 2) (gCons (gName 3) gNil))) (by rfl) sc__law_same.nd (RZ.pi_zipA (by rfl) T.m_zip (pa_cons (pv 0) (pa_cons (pv 1) pa_nil))) (blkOk_by (own := [("_law_one", 2), ("_law_two", 3)]) (N := N__law_same) (sc := defScope s__law_same) (by decide +kernel)) (fun _ _ _ _ _ => pg_tup rfl (pgs_cons (pg_name (i := 2) sc__law_same.nd rfl (.inl rfl)) (pgs_cons (pg_name (i := 3) sc__law_same.nd rfl (.inl rfl)) pgs_nil))) (fun _ _ _ _ _ => pts_nil) (fun _ _ _ _ _ => (pe_call G__law_same hr__law_same (by rfl) g__law_same F__law_same.kp b__law_same .nil pass0 (pa_cons (pv 2) (pa_cons (pv 3) pa_nil))))) pa_nil)))))))))), ?_⟩
  have hxx := hx
  have hyy := hy
  have qq := q H (Same.refl _)
  rcases deep_cases d with ⟨ds, rfl⟩ | ⟨ds, rfl⟩ | ⟨ds, rfl⟩ | rfl | ⟨b, rfl⟩ | ⟨i, rfl⟩ | ⟨z, rfl⟩
  · cases hx with
    | @lst a xs _ h1 t1 =>
      cases hy with
      | @lst a2 ys _ h2 t2 =>
        have l1 := dpa_len t1
        have l2 := dpa_len t2
        refine ⟨_, rfl, rfl, _, rfl, ifF (fun z => nomatch z) ?_⟩
        refine ⟨_, rfl, _, _, _, _, _, rfl, .ty _, ty_of hyy, kit_ty kit_list_bool, ⟨_, rfl, iteF ⟨_, rfl, _, _, _, _, _, rfl, .ty _, ty_of hxx, kit_ty kit_list_bool, ⟨_, rfl, iteF ?_⟩⟩⟩⟩
        refine ⟨_, rfl, _, _, _, _, _, rfl, .ty _, ty_of hyy, kit_ty kit_list_int, ⟨_, rfl, iteF ⟨_, rfl, _, _, _, _, _, rfl, .ty _, ty_of hyy, kit_ty kit_list_str, ⟨_, rfl, iteF ?_⟩⟩⟩⟩
        refine ⟨_, rfl, _, _, _, _, _, rfl, .ty _, ty_of hyy, kit_ty kit_list_list, ⟨_, rfl, _, _, _, _, _, rfl, .ty _, ty_of hxx, kit_ty kit_list_list, ⟨rfl, _, rfl, iteF ⟨_, rfl, _, _, _, _, _, rfl, .ty _, ty_of hyy, kit_ty kit_list_tuple, ⟨_, rfl, _, _, _, _, _, rfl, .ty _, ty_of hxx, kit_ty kit_list_tuple, ⟨rfl, _, rfl, iteF ?_⟩⟩⟩⟩⟩⟩
        refine ⟨_, rfl, a, xs, rfl, .inl h1, _, rfl, a2, ys, rfl, .inl h2, rfl, _, rfl, ifT (by rw [l1, l2]) ?_⟩
        refine ⟨_, rfl, _, rfl, a, a2, xs, ys, rfl, .inl ⟨h1, h2, fun D hD => ?_⟩⟩
        refine lc_val (n := ds.length) (walk_zip (xs := xs) (ys := ys) (by rw [l1, l2]; simp)) hD (fun _ => .bl true) (fun H' s' => ⟨s'.seq h1, s'.seq h2⟩) (Nat.lt_trans (deep_list hd).1 (by decide)) (fun i x H1 H' Qe Z hi sm hq hy => ?_) (fun H1 sm hL => ?_)
        · obtain ⟨p, u, v, rfl, np, rfl, e1, e2⟩ := hy
          obtain ⟨d1, g1, k1⟩ := dpa_get t1 e1
          obtain ⟨d2, g2, k2⟩ := dpa_get t2 e2
          have ed : d1 = d2 := Option.some.inj (g1.symm.trans g2)
          subst ed
          have s1 := same_new (o := .tup [u, v]) np
          refine ⟨p, [u, v], rfl, .inl (.inl upd_same), rfl, u, [v], rfl, v, [], rfl, rfl, rfl, yes ?_⟩
          exact ⟨_, rfl, _, rfl, u, v, d1, rfl, dp_mono (sm.trans s1) k1, dp_mono (sm.trans s1) k2, deep_get (deep_list hd).2 g1, fun H4 s4 => hq H4 (s1.trans s4)⟩
        · exact ⟨D, List.replicate ds.length true, rfl, .inl (.inl (by rw [hL, all_true.1])), by rw [all_true.2]; exact q H1 sm⟩
  · cases hx with
    | @tup a xs _ h1 t1 =>
      cases hy with
      | @tup a2 ys _ h2 t2 =>
        have l1 := dpa_len t1
        have l2 := dpa_len t2
        refine ⟨_, rfl, rfl, _, rfl, ifF (fun z => nomatch z) ?_⟩
        refine ⟨_, rfl, _, _, _, _, _, rfl, .ty _, ty_of hyy, kit_ty kit_tuple_bool, ⟨_, rfl, iteF ⟨_, rfl, _, _, _, _, _, rfl, .ty _, ty_of hxx, kit_ty kit_tuple_bool, ⟨_, rfl, iteF ?_⟩⟩⟩⟩
        refine ⟨_, rfl, _, _, _, _, _, rfl, .ty _, ty_of hyy, kit_ty kit_tuple_int, ⟨_, rfl, iteF ⟨_, rfl, _, _, _, _, _, rfl, .ty _, ty_of hyy, kit_ty kit_tuple_str, ⟨_, rfl, iteF ?_⟩⟩⟩⟩
        refine ⟨_, rfl, _, _, _, _, _, rfl, .ty _, ty_of hyy, kit_ty kit_tuple_list, ⟨_, rfl, _, _, _, _, _, rfl, .ty _, ty_of hxx, kit_ty kit_tuple_list, ⟨rfl, _, rfl, iteF ⟨_, rfl, _, _, _, _, _, rfl, .ty _, ty_of hyy, kit_ty kit_tuple_tuple, ⟨_, rfl, _, _, _, _, _, rfl, .ty _, ty_of hxx, kit_ty kit_tuple_tuple, ⟨rfl, _, rfl, iteF ?_⟩⟩⟩⟩⟩⟩
        refine ⟨_, rfl, a, xs, rfl, .inr h1, _, rfl, a2, ys, rfl, .inr h2, rfl, _, rfl, ifT (by rw [l1, l2]) ?_⟩
        refine ⟨_, rfl, _, rfl, a, a2, xs, ys, rfl, .inr ⟨h1, h2, fun D hD => ?_⟩⟩
        refine lc_val (n := ds.length) (walk_zipT (xs := xs) (ys := ys) l1 l2) hD (fun _ => .bl true) (fun H' s' => ⟨Same.seqT s' h1, Same.seqT s' h2⟩) (Nat.lt_trans (deep_tuple hd).1 (by decide)) (fun i x H1 H' Qe Z hi sm hq hy => ?_) (fun H1 sm hL => ?_)
        · obtain ⟨p, u, v, rfl, np, rfl, e1, e2⟩ := hy
          obtain ⟨d1, g1, k1⟩ := dpa_get t1 e1
          obtain ⟨d2, g2, k2⟩ := dpa_get t2 e2
          have ed : d1 = d2 := Option.some.inj (g1.symm.trans g2)
          subst ed
          have s1 := same_new (o := .tup [u, v]) np
          refine ⟨p, [u, v], rfl, .inl (.inl upd_same), rfl, u, [v], rfl, v, [], rfl, rfl, rfl, yes ?_⟩
          exact ⟨_, rfl, _, rfl, u, v, d1, rfl, dp_mono (sm.trans s1) k1, dp_mono (sm.trans s1) k2, deep_get (deep_tuple hd).2 g1, fun H4 s4 => hq H4 (s1.trans s4)⟩
        · exact ⟨D, List.replicate ds.length true, rfl, .inl (.inl (by rw [hL, all_true.1])), by rw [all_true.2]; exact q H1 sm⟩
  · cases hx
  · cases hx
    cases hy
    exact ⟨_, rfl, rfl, _, rfl, ifT rfl ⟨_, rfl, rfl, qq⟩⟩
  · cases hx
    cases hy
    refine ⟨_, rfl, rfl, _, rfl, ifF (fun z => nomatch z) ?_⟩
    refine ⟨_, rfl, _, _, _, _, _, rfl, .ty _, ty_of hyy, kit_ty kit_bool_bool, ⟨_, rfl, iteT ?_⟩⟩
    refine iteT ⟨_, rfl, _, _, _, _, _, rfl, .ty _, ty_of hyy, kit_ty kit_bool_bool, ⟨_, rfl, iteT ⟨_, rfl, _, _, _, _, _, rfl, .ty _, ty_of hxx, kit_ty kit_bool_bool, ⟨_, rfl, iteT ⟨_, rfl, _, rfl, rfl, ?_⟩⟩⟩⟩⟩
    rw [decide_eq_true rfl]
    exact qq
  · cases hx
    cases hy
    refine ⟨_, rfl, rfl, _, rfl, ifF (fun z => nomatch z) ?_⟩
    refine ⟨_, rfl, _, _, _, _, _, rfl, .ty _, ty_of hyy, kit_ty kit_int_bool, ⟨_, rfl, iteF ⟨_, rfl, _, _, _, _, _, rfl, .ty _, ty_of hxx, kit_ty kit_int_bool, ⟨_, rfl, iteF ?_⟩⟩⟩⟩
    refine ⟨_, rfl, _, _, _, _, _, rfl, .ty _, ty_of hyy, kit_ty kit_int_int, ⟨_, rfl, iteT ?_⟩⟩
    refine iteT ⟨_, rfl, _, _, _, _, _, rfl, .ty _, ty_of hxx, kit_ty kit_int_int, ⟨_, rfl, _, _, _, _, _, rfl, .ty _, ty_of hyy, kit_ty kit_int_int, ⟨rfl, _, rfl, ifT rfl ⟨_, rfl, _, _, _, _, _, rfl, .ty _, ty_of hxx, kit_ty kit_int_str, ⟨_, rfl, _, _, _, _, _, rfl, .ty _, ty_of hyy, kit_ty kit_int_str, ⟨rfl, _, rfl, ifT rfl ⟨_, rfl, _, rfl, rfl, ?_⟩⟩⟩⟩⟩⟩⟩
    rw [decide_eq_true rfl]
    exact qq
  · cases hx
    cases hy
    refine ⟨_, rfl, rfl, _, rfl, ifF (fun z => nomatch z) ?_⟩
    refine ⟨_, rfl, _, _, _, _, _, rfl, .ty _, ty_of hyy, kit_ty kit_str_bool, ⟨_, rfl, iteF ⟨_, rfl, _, _, _, _, _, rfl, .ty _, ty_of hxx, kit_ty kit_str_bool, ⟨_, rfl, iteF ?_⟩⟩⟩⟩
    refine ⟨_, rfl, _, _, _, _, _, rfl, .ty _, ty_of hyy, kit_ty kit_str_int, ⟨_, rfl, iteF ⟨_, rfl, _, _, _, _, _, rfl, .ty _, ty_of hyy, kit_ty kit_str_str, ⟨_, rfl, ?_⟩⟩⟩⟩
    refine iteT ⟨_, rfl, _, _, _, _, _, rfl, .ty _, ty_of hxx, kit_ty kit_str_int, ⟨_, rfl, _, _, _, _, _, rfl, .ty _, ty_of hyy, kit_ty kit_str_int, ⟨rfl, _, rfl, ifT rfl ⟨_, rfl, _, _, _, _, _, rfl, .ty _, ty_of hxx, kit_ty kit_str_str, ⟨_, rfl, _, _, _, _, _, rfl, .ty _, ty_of hyy, kit_ty kit_str_str, ⟨rfl, _, rfl, ifT rfl ⟨_, rfl, _, rfl, rfl, ?_⟩⟩⟩⟩⟩⟩⟩
    rw [decide_eq_true rfl]
    exact qq
theorem ok__law_same (T : Txt K mg) {f : Addr} {fd : FuncData} (F : Fun K "_law_same" "_law_same" s__law_same f fd) (b : Binds K fd ["_law_found", "_law_due"] []) (g : mg "_law_same" = some (.ref f)) : ∀ n, FnOk P w K mg base CX0 n f fd ["_law_found", "_law_due"] (sp_same K n)
  | 0 => by
    have no : ∀ vs H Q E, ¬ sp_same K 0 vs H Q E := fun vs H Q E h => by
      obtain ⟨x, y, d, _, _, _, hd, _⟩ := h
      rw [deep_zero] at hd
      cases hd
    exact ⟨fun vs H Q E h => absurd h (no vs H Q E), fun A outer s H args us vs Q E _ _ _ _ h => absurd h (no vs H Q E)⟩
  | n + 1 => ok__law_same_step T F (ok__law_same T F b g n) b g
theorem ok__law_ofL {f : Addr} {fd : FuncData} (T : Txt K mg) (F : Fun K "_law_of" "_law_of" s__law_of f fd) : FnOk P w K mg base CX0 2 f fd ["_law_bag_here", "_law_some"] (sp_ofL K) := by
  obtain ⟨f__law_pull, fd__law_pull, F__law_pull, b__law_pull, g__law_pull⟩ := T.h__law_pull
  have G__law_pull := ok__law_pull (P := P) (w := w) (base := base) T F__law_pull
  refine F.ok sc__law_of (fun vs H Q E h => ?_) (fun cdv A outer s H vs Q E hr h => ?_)
  · obtain ⟨b, l, a, xs, rfl, _⟩ := h
    rfl
  obtain ⟨b, l, a, xs, rfl, hb, hs, h1, h2, q⟩ := h
  have hr__law_pull := hr
  refine ⟨_, (pss_one (ps_ret (pe_ix (ix_seqK (K := K)) (pv 1) (pe_call G__law_pull hr__law_pull (by rfl) g__law_pull F__law_pull.kp b__law_pull .nil pass0 (pa_cons (pv 0) (pa_cons (pe_callB (call_len_seqK (K := K)) (by rfl) T.m_len PySem.boot_len (pa_cons (pv 1) pa_nil)) pa_nil))) (fun _ _ => rfl)))), ?_⟩
  refine ⟨_, rfl, _, rfl, _, rfl, a, xs, rfl, hs H (Bx.refl hb), b, l, _, rfl, hb, by omega, by omega, fun d H' d0 d1 bx => ?_⟩
  have hk : d.toNat < xs.length := by omega
  have e : atI xs d = some xs[d.toNat] := by
    have q : atI xs ((d.toNat : Nat) : Int) = some xs[d.toNat] := atI_nat (List.getElem?_eq_getElem hk)
    rwa [show ((d.toNat : Nat) : Int) = d by omega] at q
  rcases hs H' bx with hs | hs
  · exact .inl ⟨a, xs, d, _, rfl, rfl, hs, e, q _ H' (List.getElem_mem hk) bx⟩
  · exact .inr (.inl ⟨a, xs, d, _, rfl, rfl, hs, e, q _ H' (List.getElem_mem hk) bx⟩)
def Names (ss : List Str) : Prop := (∀ s ∈ ss, isNm s) ∧ ss.Nodup
def Marks (ss : List Str) : Prop := (∀ s ∈ ss, isVl s) ∧ ss.Nodup
def sp_names (ok : List Str → Prop) (top : Int) : Sp := fun vs H Q _ => ∃ (b l : Addr) (n : Int) (S : List Addr), vs = [.ref b, .int n] ∧ Bag H b l ∧ b ∈ S ∧ Tr H S ∧ 0 ≤ n ∧ n ≤ top ∧
  ∀ (p : Addr) (ss : List Str) (H' : Hp), Bx b l H H' → H p = none → dl H' S p = some (.lst (ss.map V.str)) → ss.length = n.toNat → ok ss → Q (.ref p) H'
theorem ok__law_names {f : Addr} {fd : FuncData} (T : Txt K mg) (F : Fun K "_law_names" "_law_names" s__law_names f fd) : FnOk P w K mg base CX0 3 f fd ["_law_bag_here", "_law_many_here"] (sp_names Names 26) := by
  obtain ⟨f__law_pull, fd__law_pull, F__law_pull, b__law_pull, g__law_pull⟩ := T.h__law_pull
  obtain ⟨f__law_of, fd__law_of, F__law_of, b__law_of, g__law_of⟩ := T.h__law_of
  have G__law_pull := ok__law_pull (P := P) (w := w) (base := base) T F__law_pull
  have G__law_ofS := ok__law_ofS (P := P) (w := w) (base := base) T F__law_of
  refine F.ok sc__law_names (fun vs H Q E h => ?_) (fun cdv A outer s H vs Q E hr h => ?_)
  · obtain ⟨b, l, n, S, rfl, _⟩ := h
    rfl
  obtain ⟨b, l, n, S, rfl, hb, hbS, tr, hn0, hn1, q⟩ := h
  have hr__law_pull : Room 1 _ := hr.mono (by decide)
  have hr__law_of := hr
  refine ⟨_, (pss_cons (ps_set (i := 2) sc__law_names.nd rfl (.inr rfl) pe_str)
      (pss_cons (ps_set (i := 3) sc__law_names.nd rfl (.inl rfl) (pe_join pe_str (pe_lc (own := [("_law_k", 5)]) (g := gName 5) (by rfl) sc__law_names.nd (pi_range1 (by rfl) T.m_range (pa_cons (pe_call G__law_pull hr__law_pull (by rfl) g__law_pull F__law_pull.kp b__law_pull .nil pass0 (pa_cons (pv 0) (pa_cons pe_int pa_nil))) pa_nil)) (blkOk_by (own := [("_law_k", 5)]) (N := N__law_names) (sc := defScope s__law_names) (by decide +kernel)) (fun _ _ _ _ _ => pg_name (i := 5) sc__law_names.nd rfl (.inl rfl)) (fun _ _ _ _ _ => pts_nil) (fun _ _ _ _ _ => (pe_call G__law_ofS hr__law_of (by rfl) g__law_of F__law_of.kp b__law_of .nil pass0 (pa_cons (pv 0) (pa_cons (pv 2) pa_nil)))))))
      (pss_cons (ps_if (pt_cmpR op_eq (pe_call G__law_pull hr__law_pull (by rfl) g__law_pull F__law_pull.kp b__law_pull .nil pass0 (pa_cons (pv 0) (pa_cons pe_int pa_nil))) pe_int (nomark _)) (pss_one (ps_set (i := 3) sc__law_names.nd rfl (.inl rfl) (pe_op op_repS (pe_slice sl_str (pv 3) po_none (po_some pe_int)) (pe_callB call_len_str (by rfl) T.m_len PySem.boot_len (pa_cons (pv 3) pa_nil))))) pss_nil)
      (pss_cons (ps_par (i := 6) (j := 7) (by rfl) sc__law_names.nd rfl rfl (by decide) rfl rfl (pa_cons (pe_call G__law_pull hr__law_pull (by rfl) g__law_pull F__law_pull.kp b__law_pull .nil pass0 (pa_cons (pv 0) (pa_cons (pe_op op_add (pe_callB call_len_str (by rfl) T.m_len PySem.boot_len (pa_cons (pv 3) pa_nil)) pe_int) pa_nil))) (pa_cons (pe_call G__law_pull hr__law_pull (by rfl) g__law_pull F__law_pull.kp b__law_pull .nil pass0 (pa_cons (pv 0) (pa_cons pe_int pa_nil))) pa_nil)) (by rfl))
      (pss_cons (ps_set (i := 4) sc__law_names.nd rfl (.inl rfl) (pe_lst pa_nil))
      (pss_cons (ps_for PassesOwn.never rfl (pi_range1 (by rfl) T.m_range (pa_cons (pv 1) pa_nil)) (pg_name (i := 5) sc__law_names.nd rfl (.inl rfl)) (pss_cons (ps_set (i := 8) sc__law_names.nd rfl (.inl rfl) (pe_op op_add_str (pe_op op_add_str (pe_slice sl_str (pv 3) po_none (po_some (pv 6))) (pe_ix ix_str (pv 2) (pe_op op_modN (pe_op op_add (pv 7) (pe_op op_mul pe_int (pv 5))) pe_int) (fun _ _ => rfl))) (pe_slice sl_str (pv 3) (po_some (pv 6)) po_none)))
      (pss_one (ps_expr (pe_bm PySem.F.plainAttrs_list PySem.F.slot_list_append PySem.F.type_list_append mt_append (pv 4) (pa_cons (pe_ifExp (pt_cmpR op_eq (pe_call G__law_pull hr__law_pull (by rfl) g__law_pull F__law_pull.kp b__law_pull .nil pass0 (pa_cons (pv 0) (pa_cons pe_int pa_nil))) pe_int (nomark _)) (pe_slice sl_str (pv 8) po_none (po_some (pe_callB (call_max2 rfl) (by rfl) T.m_max (by decide +kernel) (pa_cons (pe_op op_add (pv 6) pe_int) (pa_cons (pe_op op_sub (pe_callB call_len_str (by rfl) T.m_len PySem.boot_len (pa_cons (pv 8) pa_nil)) (pv 5)) pa_nil))))) (pv 8)) pa_nil))))))
      (pss_one (ps_ret (pv 4))))))))), ?_⟩
  have hL : cl "abcdefghijklmnopqrstuvwxyz" = cl "abcdefghijklmnopqrstuvwxyz" := rfl
  -- the stem
  refine ⟨⟨_, rfl⟩, _, rfl, b, l, 7, rfl, hb, by decide, by decide, fun d H1 d0 d1 bx1 => ⟨d, rfl, by omega, by omega, fun D hD => ?_⟩⟩
  refine lc_bag (walk_range (lo := 0) (n := d.toNat)) [b] List.mem_cons_self bx1.bag hD (fun y _ => ∃ c, y = .str ⟨#[c]⟩ ∧ c ∈ cl "abcdefghijklmnopqrstuvwxyz") (fun _ _ _ _ h => h) (fun _ _ => trivial) (by omega) (fun i x H2 H3 Qe Z hi bx2 sm hDl hq hy => ?_) (fun H2 ys bx2 hl hD2 hp => ?_)
  · obtain ⟨rfl, rfl⟩ := hy
    refine ⟨rfl, yes ?_⟩
    exact ⟨_, rfl, _, rfl, b, l, _, rfl, bx2.bag, by decide, by decide, fun c H4 hc bx4 => hq _ H4 bx4 ⟨c, rfl, hc⟩⟩
  obtain ⟨ss, rfl, hss, hsum, hjl, hjc⟩ := stem_of hp
  refine ⟨_, D, ss, rfl, rfl, .inl (SqL.of hD2), by rw [hsum]; show _ + ss.length * 0 ≤ 16777216; omega, ?_⟩
  have bx := bx1.trans bx2
  -- the stem, or one letter of it often
  dsimp only [gName]
  refine seqI (fun σ' H' => ∃ (z : Str), σ' = [some (.ref b), some (.int n), some (.str "abcdefghijklmnopqrstuvwxyz"), some (.str z), none, none, none, none, none] ∧ Bx b l H H' ∧ (cl z).length ≤ 6 ∧ ∀ c ∈ cl z, c ∈ cl "abcdefghijklmnopqrstuvwxyz") ?_ ?_
  rotate_left
  · intro N hN
    have hz : (Txt.join "" ss).length ≤ 100000 := by rw [cl_len, hjl]; omega
    refine ⟨_, rfl, b, l, 2, rfl, bx.bag, by decide, by decide, fun e H3 e0 e1 bx3 => ⟨rfl, _, rfl, ite2 (fun c => ?_) (fun c => ?_)⟩⟩
    · have h1 : cl (cutS (Txt.join "" ss) none (some 1)) = (cl (Txt.join "" ss)).take 1 := cl_take _ (by decide)
      refine ⟨_, rfl, 1, rfl, _, rfl, szl hz, _, rfl, _, rfl, szl hz, _, _, rfl, rfl, by rw [cl_len, h1, List.length_take]; omega, by omega, by rw [cl_len, hjl]; omega, ?_⟩
      refine hN _ _ ⟨_, rfl, bx.trans bx3, ?_, ?_⟩
      · rw [cl_mul _ (by omega), h1, List.length_flatten, List.map_replicate, List.sum_replicate_nat, List.length_take, cl_len, Int.toNat_natCast, hjl]
        have : (List.map V.str ss).length ≤ 6 := by omega
        have h3 : min 1 (List.map V.str ss).length ≤ 1 := Nat.min_le_left _ _
        calc (List.map V.str ss).length * min 1 (List.map V.str ss).length ≤ (List.map V.str ss).length * 1 := Nat.mul_le_mul_left _ h3
          _ ≤ 6 := by omega
      · intro x hx
        rw [cl_mul _ (by omega), h1] at hx
        obtain ⟨l', hl', hx⟩ := List.mem_flatten.mp hx
        rw [List.eq_of_mem_replicate hl'] at hx
        exact hjc x (List.mem_of_mem_take hx)
    · exact hN _ _ ⟨_, rfl, bx.trans bx3, by omega, hjc⟩
  rintro σ' H' ⟨z, rfl, bxz, hz6, hzc⟩
  have hzs : z.length ≤ sizeLine := szl (by rw [cl_len]; omega)
  -- spot, first, found
  refine ⟨_, rfl, _, rfl, z, rfl, hzs, _, _, rfl, rfl, b, l, _, rfl, bxz.bag, by omega, by rw [cl_len]; omega, fun spot H4 s0 s1 bx4 => ⟨_, rfl, b, l, 26, rfl, bx4.bag, by decide, by decide, fun first H5 f0 f1 bx5 => ⟨_, _, rfl, ?_⟩⟩⟩
  refine ⟨Nat.zero_le _, fun D2 hD2 => ?_⟩
  have bxA := (bxz.trans bx4).trans bx5
  have hD2H : H D2 = none := bxA.free hD2
  have nDb : D2 ≠ b := hb.ne_new hD2H
  have nDl : D2 ≠ l := hb.ne_newl hD2H
  have s1' : spot ≤ ((cl z).length : Int) := by rw [cl_len] at s1; omega
  refine ⟨_, rfl, n, rfl, by omega, by omega, for_it (walk_range (lo := 0) (n := n.toNat)) (fun i σ H' => ∃ (ss : List Str) (x5 x8 : Option V), σ = [some (.ref b), some (.int n), some (.str "abcdefghijklmnopqrstuvwxyz"), some (.str z), some (.ref D2), x5, some (.int spot), some (.int first), x8] ∧ Bx b l H H' ∧ H' D2 = some (.lst (ss.map V.str)) ∧ ss.length = i ∧ ∀ j s, ss[j]? = some s → isNm s ∧ (cl s)[spot.toNat]? = some (97 + (first.toNat + 7 * j) % 26))
    ⟨[], none, none, rfl, bxA.trans (Bx.new bxA.bag hD2), upd_same, rfl, fun j s h => by simp at h⟩ (fun _ _ _ _ _ => trivial) (fun i x σ H6 H7 hi hI hy => ?_) (fun σ H6 hI => ?_)⟩
  · obtain ⟨ss, x5, x8, rfl, bx6, hD6, hl, hss⟩ := hI
    obtain ⟨rfl, rfl⟩ := hy
    have hm : ((first + 7 * (0 + (i : Int))).fmod 26) = (((first.toNat + 7 * i) % 26 : Nat) : Int) := by
      rw [Int.fmod_eq_emod_of_nonneg _ (by omega)]
      omega
    have hc := let_at ((first.toNat + 7 * i) % 26) (by omega)
    have hcm : (97 + (first.toNat + 7 * i) % 26) ∈ cl "abcdefghijklmnopqrstuvwxyz" := List.mem_of_getElem? hc
    have hcz := cutS_length z
    have l1 := hcz none (some spot)
    have l2 := hcz (some spot) none
    have hzl : z.length = (cl z).length := rfl
    refine ⟨_, rfl, _, rfl, spot, rfl, z, rfl, hzs, _, rfl, _, rfl, _, rfl, _, _, rfl, rfl, .inl ⟨by decide, by decide⟩, _, _, rfl, rfl, _, _, rfl, rfl, (by show (26 : Int) ≠ 0; decide), _, _, _, rfl, rfl, by decide, at_code (by rw [hm]; omega) (by rw [hm, Int.toNat_natCast]; exact hc), _, _, rfl, rfl, szl (by show _ + 1 ≤ _; omega), ?_⟩
    have e3 : (cutS z none (some spot) ++ (⟨#[97 + (first.toNat + 7 * i) % 26]⟩ : Str)).length = (cutS z none (some spot)).length + 1 := strLen_append _ _
    refine ⟨_, rfl, _, rfl, spot, rfl, z, rfl, hzs, _, _, rfl, rfl, szl (by rw [e3]; omega), ?_⟩
    have hone := put_sign (z := z) (c := 97 + (first.toNat + 7 * i) % 26) s0 s1'
    have hone_len := put_len (l := cl z) (c := 97 + (first.toNat + 7 * i) % 26) (i := spot.toNat) (by omega)
    have hone_at := put_at (l := cl z) (c := 97 + (first.toNat + 7 * i) % 26) (i := spot.toNat) (by omega)
    have hone_mem := put_mem (l := cl z) (i := spot.toNat) hcm hzc
    rw [← hone] at hone_len hone_at hone_mem
    generalize cutS z none (some spot) ++ (⟨#[97 + (first.toNat + 7 * i) % 26]⟩ : Str) ++ cutS z (some spot) none = one at hone_len hone_at hone_mem
    have hos : one.length ≤ sizeLine := szl (by rw [cl_len]; omega)
    -- append
    refine ⟨_, rfl, .inl ⟨rfl, _, SqL.of hD6⟩, _, rfl, b, l, 4, rfl, bx6.bag, by decide, by decide, fun e H8 e0 e1 bx8 => ⟨rfl, _, rfl, ?_⟩⟩
    have hD8 := bx8.keep D2 _ nDb hD6
    have fin : ∀ s : Str, isNm s → (cl s)[spot.toNat]? = some (97 + (first.toNat + 7 * i) % 26) → ∀ N : L2.St → Hp → Prop, (∀ (ss' : List Str) (x5 x8 : Option V) (H9 : Hp), Bx b l H H9 → H9 D2 = some (.lst (ss'.map V.str)) → ss'.length = i + 1 → (∀ j s, ss'[j]? = some s → isNm s ∧ (cl s)[spot.toNat]? = some (97 + (first.toNat + 7 * j) % 26)) → N [some (.ref b), some (.int n), some (.str "abcdefghijklmnopqrstuvwxyz"), some (.str z), some (.ref D2), x5, some (.int spot), some (.int first), x8] H9) → ∃ p xs v, V.ref D2 = .ref p ∧ [V.str s] = [v] ∧ H8 p = some (.lst xs) ∧ xs.length < sizeLine ∧ N [some (.ref b), some (.int n), some (.str "abcdefghijklmnopqrstuvwxyz"), some (.str z), some (.ref D2), some (.int (0 + (i : Int))), some (.int spot), some (.int first), some (.str one)] (upd H8 p (.lst (xs ++ [v]))) := by
      intro s h1 h2 N hN
      refine ⟨D2, _, _, rfl, rfl, hD8, szt (by rw [List.length_map]; omega), hN (ss ++ [s]) _ _ _ ⟨bx8.bag.of (upd_ne nDb.symm) (upd_ne nDl.symm), fun a o na ea => ?_⟩ (by rw [upd_same, List.map_append]; rfl) (by simp [hl]) fun j t ht => ?_⟩
      · rw [upd_ne (ne_of_none ea hD2H)]
        exact bx8.keep a o na (bx6.keep a o na ea)
      · by_cases hj : j < ss.length
        · rw [List.getElem?_append_left hj] at ht
          exact hss j t ht
        · have ej : j = i := by
            have := (List.getElem?_eq_some_iff.mp ht).1
            rw [List.length_append, List.length_singleton] at this
            omega
          subst ej
          rw [List.getElem?_append_right (by omega), hl, Nat.sub_self] at ht
          cases ht
          exact ⟨h1, h2⟩
    refine ite2 (fun c => ?_) (fun c => ?_)
    · refine ⟨_, rfl, _, rfl, _, _, rfl, rfl, _, rfl, _, rfl, hos, _, rfl, _, _, rfl, rfl, _, _, rfl, _, rfl, one, rfl, hos, ?_⟩
      have hge : spot + 1 ≤ (if (one.length : Int) - (0 + (i : Int)) > spot + 1 then (one.length : Int) - (0 + (i : Int)) else spot + 1) := by split <;> omega
      generalize (if (one.length : Int) - (0 + (i : Int)) > spot + 1 then (one.length : Int) - (0 + (i : Int)) else spot + 1) = m at hge
      have et := cl_take one (n := m) (by omega)
      refine fin _ ⟨?_, ?_, fun x hx => ?_⟩ ?_ _ fun ss' x5 x8 H9 a1 a2 a3 a4 => ⟨ss', x5, x8, rfl, a1, a2, a3, a4⟩
      · rw [et, List.length_take]; omega
      · rw [et, List.length_take]; omega
      · rw [et] at hx
        exact hone_mem x (List.mem_of_mem_take hx)
      · rw [et, List.getElem?_take_of_lt (by omega)]
        exact hone_at
    · refine ⟨_, rfl, ?_⟩
      exact fin _ ⟨by omega, by omega, hone_mem⟩ hone_at _ fun ss' x5 x8 H9 a1 a2 a3 a4 => ⟨ss', x5, x8, rfl, a1, a2, a3, a4⟩
  · obtain ⟨ss, x5, x8, rfl, bx6, hD6, hl, hss⟩ := hI
    refine ⟨_, rfl, q D2 ss H6 bx6 hD2H (by rw [dl_ne (tr.fresh hD2H)]; exact hD6) hl ⟨fun s hs => ?_, ?_⟩⟩
    · obtain ⟨j, hj⟩ := List.mem_iff_getElem?.mp hs
      exact (hss j s hj).1
    · refine nodup_of_key (fun j => some (97 + (first.toNat + 7 * j) % 26)) (fun s => (cl s)[spot.toNat]?) (fun j s h => (hss j s h).2) fun i j lt hj e => ?_
      have := Option.some.inj e
      omega
theorem ok__law_marks {f : Addr} {fd : FuncData} (T : Txt K mg) (F : Fun K "_law_marks" "_law_marks" s__law_marks f fd) : FnOk P w K mg base CX0 3 f fd ["_law_bag_here", "_law_many_here"] (sp_names Marks 36) := by
  obtain ⟨f__law_pull, fd__law_pull, F__law_pull, b__law_pull, g__law_pull⟩ := T.h__law_pull
  obtain ⟨f__law_of, fd__law_of, F__law_of, b__law_of, g__law_of⟩ := T.h__law_of
  have G__law_pull := ok__law_pull (P := P) (w := w) (base := base) T F__law_pull
  have G__law_ofS := ok__law_ofS (P := P) (w := w) (base := base) T F__law_of
  refine F.ok sc__law_marks (fun vs H Q E h => ?_) (fun cdv A outer s H vs Q E hr h => ?_)
  · obtain ⟨b, l, n, S, rfl, _⟩ := h
    rfl
  obtain ⟨b, l, n, S, rfl, hb, hbS, tr, hn0, hn1, q⟩ := h
  have hr__law_pull : Room 1 _ := hr.mono (by decide)
  have hr__law_of := hr
  refine ⟨_, (pss_cons (ps_set (i := 2) sc__law_marks.nd rfl (.inr rfl) pe_str)
      (pss_cons (ps_set (i := 3) sc__law_marks.nd rfl (.inr rfl) (pe_join pe_str (pe_lc (own := [("_law_k", 6)]) (g := gName 6) (by rfl) sc__law_marks.nd (pi_range1 (by rfl) T.m_range (pa_cons (pe_call G__law_pull hr__law_pull (by rfl) g__law_pull F__law_pull.kp b__law_pull .nil pass0 (pa_cons (pv 0) (pa_cons pe_int pa_nil))) pa_nil)) (blkOk_by (own := [("_law_k", 6)]) (N := N__law_marks) (sc := defScope s__law_marks) (by decide +kernel)) (fun _ _ _ _ _ => pg_name (i := 6) sc__law_marks.nd rfl (.inl rfl)) (fun _ _ _ _ _ => pts_nil) (fun _ _ _ _ _ => (pe_call G__law_ofS hr__law_of (by rfl) g__law_of F__law_of.kp b__law_of .nil pass0 (pa_cons (pv 0) (pa_cons (pv 2) pa_nil)))))))
      (pss_cons (ps_asg (pe_tup (pa_cons (pe_call G__law_pull hr__law_pull (by rfl) g__law_pull F__law_pull.kp b__law_pull .nil pass0 (pa_cons (pv 0) (pa_cons (pe_op op_add (pe_callB call_len_str (by rfl) T.m_len PySem.boot_len (pa_cons (pv 3) pa_nil)) pe_int) pa_nil))) (pa_cons (pe_call G__law_pull hr__law_pull (by rfl) g__law_pull F__law_pull.kp b__law_pull .nil pass0 (pa_cons (pv 0) (pa_cons pe_int pa_nil))) pa_nil))) (pg_tup rfl (pgs_cons (pg_name (i := 4) sc__law_marks.nd rfl (.inr rfl)) (pgs_cons (pg_name (i := 5) sc__law_marks.nd rfl (.inr rfl)) pgs_nil))))
      (pss_one (ps_ret (pe_lc (own := [("_law_k", 6)]) (g := gName 6) (by rfl) sc__law_marks.nd (pi_range1 (by rfl) T.m_range (pa_cons (pv 1) pa_nil)) (blkOk_by (own := [("_law_k", 6)]) (N := N__law_marks) (sc := defScope s__law_marks) (by decide +kernel)) (fun _ _ _ _ _ => pg_name (i := 6) sc__law_marks.nd rfl (.inl rfl)) (fun _ _ _ _ _ => pts_nil) (fun _ _ _ _ _ => (pe_op op_add_str (pe_op op_add_str (pe_slice sl_str (pv 3) po_none (po_some (pv 4))) (pe_ix ix_str (pv 2) (pe_op op_modN (pe_op op_add (pv 5) (pe_op op_mul pe_int (pv 6))) pe_int) (fun _ _ => rfl))) (pe_slice sl_str (pv 3) (po_some (pv 4)) po_none))))))))), ?_⟩
  refine ⟨⟨_, rfl⟩, _, rfl, b, l, 8, rfl, hb, by decide, by decide, fun d H1 d0 d1 bx1 => ⟨d, rfl, by omega, by omega, fun D hD => ?_⟩⟩
  refine lc_bag (walk_range (lo := 0) (n := d.toNat)) [b] List.mem_cons_self bx1.bag hD (fun y _ => ∃ c, y = .str ⟨#[c]⟩ ∧ c ∈ cl "abcdefghijklmnopqrstuvwxyz0123456789") (fun _ _ _ _ h => h) (fun _ _ => trivial) (by omega) (fun i x H2 H3 Qe Z hi bx2 sm hDl hq hy => ?_) (fun H2 ys bx2 hl hD2 hp => ?_)
  · obtain ⟨rfl, rfl⟩ := hy
    refine ⟨rfl, yes ?_⟩
    exact ⟨_, rfl, _, rfl, b, l, _, rfl, bx2.bag, by decide, by decide, fun c H4 hc bx4 => hq _ H4 bx4 ⟨c, rfl, hc⟩⟩
  obtain ⟨ss, rfl, hss, hsum, hjl, hzc⟩ := stem_of hp
  refine ⟨_, D, ss, rfl, rfl, .inl (SqL.of hD2), by rw [hsum]; show _ + ss.length * 0 ≤ 16777216; omega, ?_⟩
  have bx := bx1.trans bx2
  have hz7 : (cl (Txt.join "" ss)).length ≤ 7 := by omega
  generalize Txt.join "" ss = z at hz7 hzc
  have hzl : z.length = (cl z).length := rfl
  have hzs : z.length ≤ sizeLine := szl (by omega)
  refine ⟨_, rfl, _, rfl, z, rfl, hzs, _, _, rfl, rfl, b, l, _, rfl, bx.bag, by omega, by omega, fun spot H4 s0 s1 bx4 => ⟨_, rfl, b, l, 36, rfl, bx4.bag, by decide, by decide, fun first H5 f0 f1 bx5 => ⟨by show 2 ≤ sizeLine; decide, fun tp htp => ⟨tp, _, rfl, .inl (.inl upd_same), rfl, _, _, rfl, _, _, rfl, rfl, ?_⟩⟩⟩⟩
  have bxA := ((bx.trans bx4).trans bx5).trans (Bx.new (o := .tup [.int spot, .int first]) bx5.bag htp)
  have s1' : spot ≤ ((cl z).length : Int) := by omega
  refine ⟨_, rfl, n, rfl, by omega, by omega, fun D2 hD2 => ?_⟩
  have hD2H : H D2 = none := bxA.free hD2
  let sg : Nat → Nat := fun m => if m < 26 then 97 + m else 22 + m
  let wd : Nat → Str := fun i => cutS z none (some spot) ++ ⟨#[sg ((first.toNat + 5 * i) % 36)]⟩ ++ cutS z (some spot) none
  refine lc_val (walk_range (lo := 0) (n := n.toNat)) hD2 (fun i => .str (wd i)) (fun _ _ => trivial) (by omega) (fun i x H6 H7 Qe Z hi sm hq hy => ?_) (fun H6 sm hL => ?_)
  · obtain ⟨rfl, rfl⟩ := hy
    have hm : ((first + 5 * (0 + (i : Int))).fmod 36) = (((first.toNat + 5 * i) % 36 : Nat) : Int) := by
      rw [Int.fmod_eq_emod_of_nonneg _ (by omega)]
      omega
    have hc := sgn_at ((first.toNat + 5 * i) % 36) (by omega)
    have hcz := cutS_length z
    have l1 := hcz none (some spot)
    have l2 := hcz (some spot) none
    refine ⟨rfl, yes ?_⟩
    refine ⟨_, rfl, _, rfl, spot, rfl, z, rfl, hzs, _, rfl, _, rfl, _, rfl, _, _, rfl, rfl, .inl ⟨by decide, by decide⟩, _, _, rfl, rfl, _, _, rfl, rfl, (by show (36 : Int) ≠ 0; decide), _, _, _, rfl, rfl, by decide, at_code (by rw [hm]; omega) (by rw [hm, Int.toNat_natCast]; exact hc), _, _, rfl, rfl, szl (by show _ + 1 ≤ _; omega), ?_⟩
    have e3 : (cutS z none (some spot) ++ (⟨#[sg ((first.toNat + 5 * i) % 36)]⟩ : Str)).length = (cutS z none (some spot)).length + 1 := strLen_append _ _
    exact ⟨_, rfl, _, rfl, spot, rfl, z, rfl, hzs, _, _, rfl, rfl, szl (Nat.le_trans (Nat.add_le_add_right (Nat.le_of_eq e3) _) (by omega)), hq _ (Same.refl _)⟩
  · have eL : (List.range n.toNat).map (fun i => V.str (wd i)) = ((List.range n.toNat).map wd).map V.str := by rw [List.map_map]; rfl
    rw [eL] at hL
    refine q D2 _ H6 (bxA.trans (Bx.ofSame bxA.bag sm)) hD2H (by rw [dl_ne (tr.fresh hD2H)]; exact hL) (by simp) ⟨fun s hs => ?_, ?_⟩
    · obtain ⟨i, hi, rfl⟩ := List.mem_map.mp hs
      have hcm : sg ((first.toNat + 5 * i) % 36) ∈ cl "abcdefghijklmnopqrstuvwxyz0123456789" := List.mem_of_getElem? (sgn_at ((first.toNat + 5 * i) % 36) (by omega))
      have hone := put_sign (z := z) (c := sg ((first.toNat + 5 * i) % 36)) s0 s1'
      have h1 := put_len (l := cl z) (c := sg ((first.toNat + 5 * i) % 36)) (i := spot.toNat) (by omega)
      have h2 := put_mem (l := cl z) (i := spot.toNat) hcm hzc
      rw [← hone] at h1 h2
      exact ⟨by show 1 ≤ (cl (wd i)).length; rw [show (cl (wd i)).length = _ from h1]; omega, by show (cl (wd i)).length ≤ 8; rw [show (cl (wd i)).length = _ from h1]; omega, h2⟩
    · refine nodup_of_key (fun j => some (sg ((first.toNat + 5 * j) % 36))) (fun s => (cl s)[spot.toNat]?) (fun j s h => ?_) fun i j lt hj e => ?_
      · rw [List.getElem?_map] at h
        by_cases hj : j < n.toNat
        · rw [List.getElem?_range hj] at h
          cases h
          have hone := put_sign (z := z) (c := sg ((first.toNat + 5 * j) % 36)) s0 s1'
          have h1 := put_at (l := cl z) (c := sg ((first.toNat + 5 * j) % 36)) (i := spot.toNat) (by omega)
          rw [← hone] at h1
          exact h1
        · rw [List.getElem?_eq_none (by simpa using hj)] at h
          cases h
      · rw [List.length_map, List.length_range] at hj
        have e1 : sg ((first.toNat + 5 * i) % 36) = sg ((first.toNat + 5 * j) % 36) := Option.some.inj e
        have e2 : (if (first.toNat + 5 * i) % 36 < 26 then 97 + (first.toNat + 5 * i) % 36 else 22 + (first.toNat + 5 * i) % 36) = (if (first.toNat + 5 * j) % 36 < 26 then 97 + (first.toNat + 5 * j) % 36 else 22 + (first.toNat + 5 * j) % 36) := e1
        split at e2 <;> split at e2 <;> omega
def FOk (fs : List Fld) : Prop := (∀ f ∈ fs, isNm f.1 ∧ f.1 ≠ "any" ∧ f.1 ≠ "none" ∧ Marks f.2 ∧ 1 ≤ f.2.length ∧ f.2.length ≤ 3) ∧ (fs.map (·.1)).Nodup ∧ 1 ≤ fs.length
def sp_fields (K : PySem.W.Frag) : Sp := fun vs H Q _ => ∃ (b l : Addr) (n : Int) (S : List Addr), vs = [.ref b, .int n] ∧ Bag H b l ∧ b ∈ S ∧ Tr H S ∧ 1 ≤ n ∧ n ≤ 25 ∧
  ∀ (v : V) (fs : List Fld) (H' : Hp), Bx b l H H' → Dp K (dl H' S) v (fldsD fs) → FOk fs → (fs.length : Int) ≤ n → Q v H'
theorem ok__law_fields {f : Addr} {fd : FuncData} (T : Txt K mg) (F : Fun K "_law_fields" "_law_fields" s__law_fields f fd) : FnOk P w K mg base CX0 4 f fd ["_law_bag_here", "_law_most"] (sp_fields K) := by
  obtain ⟨f__law_names, fd__law_names, F__law_names, b__law_names, g__law_names⟩ := T.h__law_names
  obtain ⟨f__law_marks, fd__law_marks, F__law_marks, b__law_marks, g__law_marks⟩ := T.h__law_marks
  obtain ⟨f__law_pull, fd__law_pull, F__law_pull, b__law_pull, g__law_pull⟩ := T.h__law_pull
  have G__law_pull := ok__law_pull (P := P) (w := w) (base := base) T F__law_pull
  have G__law_names := ok__law_names (P := P) (w := w) (base := base) T F__law_names
  have G__law_marks := ok__law_marks (P := P) (w := w) (base := base) T F__law_marks
  refine F.ok sc__law_fields (fun vs H Q E h => ?_) (fun cdv A outer s H vs Q E hr h => ?_)
  · obtain ⟨b, l, n, S, rfl, _⟩ := h
    rfl
  obtain ⟨b, l, n, S, rfl, hb, hbS, tr, hn0, hn1, q⟩ := h
  have hr__law_pull : Room 1 _ := hr.mono (by decide)
  have hr__law_names := hr
  have hr__law_marks := hr
  refine ⟨_, (pss_cons (ps_setLc (i := 2) (own := [("_law_name", 3)]) (g := gName 3) rfl sc__law_fields.nd rfl rfl (sw_true rfl rfl rfl (by decide +kernel)) (pi_listK (K := K) (pe_call G__law_names hr__law_names (by rfl) g__law_names F__law_names.kp b__law_names .nil pass0 (pa_cons (pv 0) (pa_cons (pe_op op_add pe_int (pe_call G__law_pull hr__law_pull (by rfl) g__law_pull F__law_pull.kp b__law_pull .nil pass0 (pa_cons (pv 0) (pa_cons (pv 1) pa_nil)))) pa_nil)))) (blkOk_by (own := [("_law_name", 3)]) (N := N__law_fields) (sc := defScope s__law_fields) (by decide +kernel)) (fun _ _ _ _ _ => pg_name (i := 3) sc__law_fields.nd rfl (.inl rfl)) (fun _ _ _ _ _ => (pts_one (pt_cmpR (op_notIn_seqK (K := K)) (pv 3) (pe_tup (pa_cons pe_str (pa_cons pe_str pa_nil))) (by rfl)))) (fun _ _ _ _ _ => (pv 3)))
      (pss_cons (ps_set (i := 2) sc__law_fields.nd rfl (.inl rfl) (pe_ifExp (pt_cmpR (op_neDK (K := K) hr.units) (pv 2) (pe_lst pa_nil) (nomark _)) (pv 2) (pe_lst (pa_cons pe_str pa_nil))))
      (pss_one (ps_ret (pe_lc (own := [("_law_name", 3)]) (g := gName 3) (by rfl) sc__law_fields.nd (pi_listK (K := K) (pv 2)) (blkOk_by (own := [("_law_name", 3)]) (N := N__law_fields) (sc := defScope s__law_fields) (by decide +kernel)) (fun _ _ _ _ _ => pg_name (i := 3) sc__law_fields.nd rfl (.inl rfl)) (fun _ _ _ _ _ => pts_nil) (fun _ _ _ _ _ => (pe_tup (pa_cons (pv 3) (pa_cons (pe_call G__law_marks hr__law_marks (by rfl) g__law_marks F__law_marks.kp b__law_marks .nil pass0 (pa_cons (pv 0) (pa_cons (pe_op op_add pe_int (pe_call G__law_pull hr__law_pull (by rfl) g__law_pull F__law_pull.kp b__law_pull .nil pass0 (pa_cons (pv 0) (pa_cons pe_int pa_nil)))) pa_nil))) pa_nil))))))))), ?_⟩
  refine ⟨_, rfl, _, rfl, _, rfl, b, l, n, rfl, hb, hn0, by omega, fun d H1 d0 d1 bx1 => ⟨1, d, rfl, rfl, b, l, 1 + d, S, rfl, bx1.bag, hbS, tr.bx bx1, by omega, by omega, fun p ss H2 bx2 hp hpS hlen hok => ⟨p, rfl, ⟨_, SqL.of (dl_some hpS).2⟩, fun D hD => ?_⟩⟩⟩
  have bxA := bx1.trans bx2
  have hp2 := (dl_some hpS).2
  refine lc_filt (xs := ss.map V.str) walk_list hD (fun v => v) (fun v => !inV v [.str "any", .str "none"]) (fun H' s' => s'.seq (SqL.of hp2)) (by rw [List.length_map]; omega) (fun i x H3 R Z hx sm hR hZ => ?_) (fun H3 sm hL => ?_)
  · obtain ⟨s, hs, rfl⟩ := str_at hx
    refine ⟨rfl, _, rfl, by show 2 ≤ sizeLine; decide, fun t ht => ⟨t, _, rfl, .inr (.inl (.inl upd_same)), rfl, rfl, _, rfl, ?_⟩⟩
    have st := same_new (o := .tup [.str "any", .str "none"]) ht
    refine ite2 (fun c => ⟨_, rfl, hR c _ st⟩) fun c => hZ (Bool.eq_false_iff.mpr c) _ st
  have eL : ((ss.map V.str).filter fun v => !inV v [.str "any", .str "none"]).map (fun v => v) = (ss.filter notW).map V.str := by
    rw [List.map_id', List.filter_map]
    rfl
  rw [eL] at hL
  have hDH : H D = none := bxA.free hD
  have bxB := bxA.trans (Bx.ofSame bxA.bag sm)
  have hLS : dl H3 S D = some (.lst ((ss.filter notW).map V.str)) := by rw [dl_ne (tr.fresh hDH)]; exact hL
  have hsub : ∀ s ∈ ss.filter notW, isNm s ∧ s ≠ "any" ∧ s ≠ "none" := fun s hs => by
    obtain ⟨h1, h2⟩ := List.mem_filter.mp hs
    exact ⟨hok.1 s h1, notW_iff.mp h2⟩
  have hnd : (ss.filter notW).Nodup := hok.2.filter _
  have hfl : (ss.filter notW).length ≤ n.toNat := by
    have := List.length_filter_le notW ss
    omega
  generalize ss.filter notW = ns at hL hLS hsub hnd hfl
  dsimp only [gName]
  refine seqI (fun σ' H' => ∃ (a2 : Addr) (ns : List Str), σ' = [some (.ref b), some (.int n), some (.ref a2), none] ∧ Bx b l H H' ∧ dl H' S a2 = some (.lst (ns.map V.str)) ∧ (∀ s ∈ ns, isNm s ∧ s ≠ "any" ∧ s ≠ "none") ∧ ns.Nodup ∧ 1 ≤ ns.length ∧ ns.length ≤ n.toNat) ?_ ?_
  rotate_left
  · intro N hN
    refine ⟨_, rfl, Nat.zero_le _, fun e he => ?_⟩
    have se := same_new (o := .lst []) he
    refine ⟨.list (ns.map PyData.str), .list [], .lst (SqL.of (se _ _ hL)) (dpa_strs ns), .lst (SqL.of upd_same) .nil, shaped_strs (fun s hs => (hsub s hs).1.ok) (by omega), rfl, _, rfl, ?_⟩
    rw [eqv_nil]
    refine ite2 (fun c => ⟨_, rfl, ?_⟩) fun c => ⟨by show 1 ≤ sizeLine; decide, fun r hr' => ?_⟩
    · refine hN _ _ ⟨D, ns, rfl, bxB.trans (Bx.ofSame bxB.bag se), (dl_mono se) _ _ hLS, hsub, hnd, ?_, hfl⟩
      cases ns with
      | nil => simp at c
      | cons x r => simp
    · have sr := same_new (o := .lst [.str "role"]) hr'
      have bxC := bxB.trans (Bx.ofSame bxB.bag (se.trans sr))
      have hrH : H r = none := (bxB.trans (Bx.ofSame bxB.bag se)).free hr'
      refine hN _ _ ⟨r, ["role"], rfl, bxC, by rw [dl_ne (tr.fresh hrH), upd_same]; rfl, fun s hs => ?_, by simp, by simp, by show 1 ≤ _; omega⟩
      rw [List.mem_singleton.mp hs]
      exact ⟨⟨by decide, by decide, by decide⟩, by decide, by decide⟩
  rintro σ' H4 ⟨a2, ns, rfl, bx4, ha2, hnm, hnd, hn1', hnn⟩
  have ha2H := (dl_some ha2).2
  have nab : a2 ≠ b := fun z => (dl_some ha2).1 (by rw [z]; exact hbS)
  refine ⟨_, rfl, a2, rfl, ⟨_, SqL.of ha2H⟩, fun D3 hD3 => ?_⟩
  have hD3H : H D3 = none := bx4.free hD3
  refine lc_bagI (walk_list (xs := ns.map V.str)) S hbS bx4.bag hD3 (fun i y G => ∃ f : Fld, ns[i]? = some f.1 ∧ Dp K G y (fldD f) ∧ Marks f.2 ∧ 1 ≤ f.2.length ∧ f.2.length ≤ 3) (fun i y G G' sm ⟨f, h1, h2, h3⟩ => ⟨f, h1, dp_mono sm h2, h3⟩) (fun H' bx => bx_seq bx nab (SqL.of ha2H)) (by rw [List.length_map]; omega) (fun i x H5 H6 Qe Z hi bx5 sm hDl hq hy => ?_) (fun H5 ys bx5 hyl hD5 hp => ?_)
  · obtain ⟨rfl, hx⟩ := hy
    obtain ⟨nm, hnmi, rfl⟩ := str_at hx
    obtain ⟨xsD, hxD⟩ := hDl
    have trD : Tr H6 (D3 :: S) := ((tr.bx bx4).bx bx5).cons hxD
    refine ⟨rfl, yes ?_⟩
    refine ⟨_, rfl, _, rfl, _, rfl, b, l, 3, rfl, bx5.bag, by decide, by decide, fun d2 H7 d20 d21 bx7 => ⟨1, d2, rfl, rfl, b, l, 1 + d2, D3 :: S, rfl, bx7.bag, List.mem_cons_of_mem _ hbS, trD.bx bx7, by omega, by omega, fun p3 ms H8 bx8 hp3 hp3S hml hmo => ⟨by show 2 ≤ sizeLine; decide, fun t ht => ?_⟩⟩⟩
    have trE := (trD.bx bx7).bx bx8
    refine hq _ _ ((bx7.trans bx8).trans (Bx.new bx8.bag ht)) ⟨(nm, ms), hnmi, .tup (SqT.of (dl_upd_at trE ht)) (.cons (.str _) (.cons (.lst (SqL.of (dl_same_new trE ht _ _ hp3S)) (dpa_strs ms)) .nil)), hmo, ?_, ?_⟩
    · show 1 ≤ ms.length
      omega
    · show ms.length ≤ 3
      omega
  · rw [List.length_map] at hyl
    obtain ⟨fs, hfl, hfs⟩ := choose_list (R := fun i y (f : Fld) => ns[i]? = some f.1 ∧ Dp K (dl H5 (D3 :: S)) y (fldD f) ∧ Marks f.2 ∧ 1 ≤ f.2.length ∧ f.2.length ≤ 3) hp
    have at_f : ∀ (i : Nat) f, fs[i]? = some f → ∃ y, ys[i]? = some y := fun i f hf => by
      have := (List.getElem?_eq_some_iff.mp hf).1
      exact ⟨_, List.getElem?_eq_getElem (by omega)⟩
    have en : fs.map (·.1) = ns := by
      apply List.ext_getElem?
      intro i
      rw [List.getElem?_map]
      cases ef : fs[i]? with
      | none =>
        have : fs.length ≤ i := List.getElem?_eq_none_iff.mp ef
        rw [List.getElem?_eq_none (by omega)]
        rfl
      | some f =>
        obtain ⟨y, hy⟩ := at_f i f ef
        rw [(hfs i y f hy ef).1]
        rfl
    refine q _ fs H5 (bx4.trans bx5) (.lst (SqL.of (by rw [dl_ne (tr.fresh hD3H)]; exact hD5)) (dpa_of (by rw [List.length_map, hfl]) fun i v d hv hd => ?_)) ⟨fun f hf => ?_, by rw [en]; exact hnd, by omega⟩ (by omega)
    · rw [List.getElem?_map] at hd
      cases ef : fs[i]? with
      | none => rw [ef] at hd; cases hd
      | some f =>
        rw [ef] at hd
        cases hd
        exact dp_mono (dl_sub fun a ha => List.mem_cons_of_mem _ ha) (hfs i v f hv ef).2.1
    · obtain ⟨i, ef⟩ := List.mem_iff_getElem?.mp hf
      obtain ⟨y, hy⟩ := at_f i f ef
      have h := hfs i y f hy ef
      have h1 := hnm f.1 (List.mem_of_getElem? h.1)
      exact ⟨h1.1, h1.2.1, h1.2.2, h.2.2⟩
def sp_test (K : PySem.W.Frag) : Sp := fun vs H Q _ => ∃ (b l a : Addr) (S : List Addr) (fs : List Fld), vs = [.ref b, .ref a] ∧ Bag H b l ∧ b ∈ S ∧ Tr H S ∧ Dp K (dl H S) (.ref a) (fldsD fs) ∧ FOk fs ∧ fs.length ≤ 1000 ∧
  ∀ (v : V) (fl : Fld) (m : Str) (H' : Hp), Bx b l H H' → fl ∈ fs → m ∈ fl.2 → Dp K (dl H' S) v (toD (.test fl.1 m)) → Q v H'
theorem ok__law_test {f : Addr} {fd : FuncData} (T : Txt K mg) (F : Fun K "_law_test" "_law_test" s__law_test f fd) : FnOk P w K mg base CX0 3 f fd ["_law_bag_here", "_law_fields_here"] (sp_test K) := by
  obtain ⟨f__law_of, fd__law_of, F__law_of, b__law_of, g__law_of⟩ := T.h__law_of
  have G__law_ofL := ok__law_ofL (P := P) (w := w) (base := base) T F__law_of
  refine F.ok sc__law_test (fun vs H Q E h => ?_) (fun cdv A outer s H vs Q E hr h => ?_)
  · obtain ⟨b, l, a, S, fs, rfl, _⟩ := h
    rfl
  obtain ⟨b, l, a, S, fs, rfl, hb, hbS, tr, hD, hok, hfl, q⟩ := h
  have hr__law_of := hr
  refine ⟨_, (pss_cons (ps_asg (pe_call G__law_ofL hr__law_of (by rfl) g__law_of F__law_of.kp b__law_of .nil pass0 (pa_cons (pv 0) (pa_cons (pv 1) pa_nil))) (pg_tup rfl (pgs_cons (pg_name (i := 2) sc__law_test.nd rfl (.inl rfl)) (pgs_cons (pg_name (i := 3) sc__law_test.nd rfl (.inl rfl)) pgs_nil))))
      (pss_one (ps_ret (pe_tup (pa_cons pe_str (pa_cons (pv 2) (pa_cons (pe_call G__law_ofL hr__law_of (by rfl) g__law_of F__law_of.kp b__law_of .nil pass0 (pa_cons (pv 0) (pa_cons (pv 3) pa_nil))) pa_nil))))))), ?_⟩
  cases hD with
  | @lst _ xs _ hs hall =>
    have hlen : xs.length = fs.length := by rw [dpa_len hall, List.length_map]
    have := hok.2.2
    refine ⟨_, rfl, _, rfl, b, l, a, xs, rfl, hb, of_seq hbS hs, by omega, by omega, fun x H1 hx bx1 => ?_⟩
    obtain ⟨i, hi⟩ := List.mem_iff_getElem?.mp hx
    obtain ⟨d, hd, hdx⟩ := dpa_get hall hi
    rw [List.getElem?_map] at hd
    cases ef : fs[i]? with
    | none => rw [ef] at hd; cases hd
    | some fl =>
      rw [ef] at hd
      cases hd
      have hflm : fl ∈ fs := List.mem_of_getElem? ef
      have hdx1 := dp_mono (bx1.same hbS) hdx
      cases hdx1 with
      | @tup t ys _ ht hyall =>
        cases hyall with
        | cons h1 h2 =>
          cases h1
          cases h2 with
          | cons h3 h4 =>
            cases h4
            cases h3 with
            | @lst m zs _ hm hmall =>
              refine ⟨t, _, rfl, Same.seqT dl_le ht, rfl, _, _, rfl, _, _, rfl, rfl, ?_⟩
              have hzl : zs.length = fl.2.length := by rw [dpa_len hmall, List.length_map]
              have hf1 := hok.1 fl hflm
              refine ⟨_, rfl, _, rfl, _, rfl, b, l, m, zs, rfl, bx1.bag, of_seq hbS hm, by omega, by omega, fun y H2 hy bx2 => ⟨by show 3 ≤ sizeLine; decide, fun t2 ht2 => ?_⟩⟩
              obtain ⟨j, hj⟩ := List.mem_iff_getElem?.mp hy
              obtain ⟨d2, hd2, hdy⟩ := dpa_get hmall hj
              rw [List.getElem?_map] at hd2
              cases em : fl.2[j]? with
              | none => rw [em] at hd2; cases hd2
              | some mk =>
                rw [em] at hd2
                cases hd2
                cases hdy
                have tr2 := (tr.bx bx1).bx bx2
                refine q _ fl mk _ ((bx1.trans bx2).trans (Bx.new bx2.bag ht2)) hflm (List.mem_of_getElem? em) ?_
                unfold toD
                exact .tup (SqT.of (dl_upd_at tr2 ht2)) (.cons (.str _) (.cons (.str _) (.cons (.str _) .nil)))
def sp_tree (K : PySem.W.Frag) (n : Nat) : Sp := fun vs H Q _ => ∃ (b l a : Addr) (m : Int) (S : List Addr) (fs : List Fld), vs = [.ref b, .ref a, .int m] ∧ Bag H b l ∧ b ∈ S ∧ Tr H S ∧ Dp K (dl H S) (.ref a) (fldsD fs) ∧ FOk fs ∧ fs.length ≤ 1000 ∧ 1 ≤ m ∧ m ≤ n ∧
  ∀ (v : V) (c : Cd) (H' : Hp), Bx b l H H' → Gd fs m.toNat c → Dp K (dl H' S) v (toD c) → Q v H'
theorem ok__law_tree_step {f : Addr} {fd : FuncData} {n : Nat} (T : Txt K mg) (F : Fun K "_law_tree" "_law_tree" s__law_tree f fd) (G__law_tree : FnOk P w K mg base CX0 (n + 4) f fd ["_law_bag_here", "_law_fields_here", "_law_deep"] (sp_tree K n)) (b__law_tree : Binds K fd ["_law_bag_here", "_law_fields_here", "_law_deep"] []) (g__law_tree : mg "_law_tree" = some (.ref f)) : FnOk P w K mg base CX0 (n + 5) f fd ["_law_bag_here", "_law_fields_here", "_law_deep"] (sp_tree K (n + 1)) := by
  obtain ⟨f__law_pull, fd__law_pull, F__law_pull, b__law_pull, g__law_pull⟩ := T.h__law_pull
  obtain ⟨f__law_test, fd__law_test, F__law_test, b__law_test, g__law_test⟩ := T.h__law_test
  obtain ⟨f__law_of, fd__law_of, F__law_of, b__law_of, g__law_of⟩ := T.h__law_of
  have F__law_tree := F
  have G__law_pull := ok__law_pull (P := P) (w := w) (base := base) T F__law_pull
  have G__law_ofL := ok__law_ofL (P := P) (w := w) (base := base) T F__law_of
  have G__law_test := ok__law_test (P := P) (w := w) (base := base) T F__law_test
  refine F.ok sc__law_tree (fun vs H Q E h => ?_) (fun cdv A outer s H vs Q E hr h => ?_)
  · obtain ⟨b, l, a, m, S, fs, rfl, _⟩ := h
    rfl
  obtain ⟨b, l, a, m, S, fs, rfl, hb, hbS, tr, hD, hok, hfl, hm1, hmn, q⟩ := h
  have hr__law_pull : Room 1 _ := hr.mono (by omega)
  have hr__law_of : Room 2 _ := hr.mono (by omega)
  have hr__law_test : Room 3 _ := hr.mono (by omega)
  have hr__law_tree : Room (n + 4) _ := hr
  refine ⟨_, (pss_cons (ps_set (i := 3) sc__law_tree.nd rfl (.inl rfl) (pe_call G__law_pull hr__law_pull (by rfl) g__law_pull F__law_pull.kp b__law_pull .nil pass0 (pa_cons (pv 0) (pa_cons pe_int pa_nil))))
      (pss_cons (ps_if (PW.pt (pw_or (pt_cmpR op_lt (pv 2) pe_int (nomark _)) (pw_or1 (pt_cmpR op_lt (pv 3) pe_int (nomark _))))) (pss_one (ps_ret (pe_ifExp (PW.pt (pw_and (pt_cmpR op_eq (pv 3) pe_int (nomark _)) (pw_and1 (pt_cmpR op_eq (pe_call G__law_pull hr__law_pull (by rfl) g__law_pull F__law_pull.kp b__law_pull .nil pass0 (pa_cons (pv 0) (pa_cons pe_int pa_nil))) pe_int (nomark _))))) (pe_tup (pa_cons pe_str pa_nil)) (pe_call G__law_test hr__law_test (by rfl) g__law_test F__law_test.kp b__law_test .nil pass0 (pa_cons (pv 0) (pa_cons (pv 1) pa_nil)))))) pss_nil)
      (pss_cons (ps_if (pt_cmpR op_eq (pv 3) pe_int (nomark _)) (pss_one (ps_ret (pe_tup (pa_cons pe_str (pa_cons (pe_call G__law_tree hr__law_tree (by rfl) g__law_tree F__law_tree.kp b__law_tree .nil pass0 (pa_cons (pv 0) (pa_cons (pv 1) (pa_cons (pe_op op_sub (pv 2) pe_int) pa_nil)))) pa_nil))))) pss_nil)
      (pss_cons (ps_setLc (i := 4) (own := [("_law_k", 5)]) (g := gName 5) rfl sc__law_tree.nd rfl rfl (sw_true rfl rfl rfl (by decide +kernel)) (pi_range1 (by rfl) T.m_range (pa_cons (pe_op op_add pe_int (pe_call G__law_pull hr__law_pull (by rfl) g__law_pull F__law_pull.kp b__law_pull .nil pass0 (pa_cons (pv 0) (pa_cons pe_int pa_nil)))) pa_nil)) (blkOk_by (own := [("_law_k", 5)]) (N := N__law_tree) (sc := defScope s__law_tree) (by decide +kernel)) (fun _ _ _ _ _ => pg_name (i := 5) sc__law_tree.nd rfl (.inl rfl)) (fun _ _ _ _ _ => pts_nil) (fun _ _ _ _ _ => (pe_call G__law_tree hr__law_tree (by rfl) g__law_tree F__law_tree.kp b__law_tree .nil pass0 (pa_cons (pv 0) (pa_cons (pv 1) (pa_cons (pe_op op_sub (pv 2) pe_int) pa_nil))))))
      (pss_one (ps_ret (pe_callTy (call_tuple_ofK (K := K)) (by rfl) T.m_tuple (by decide +kernel) (pa_cons (pe_op op_cat (pe_lst (pa_cons (pe_call G__law_ofL hr__law_of (by rfl) g__law_of F__law_of.kp b__law_of .nil pass0 (pa_cons (pv 0) (pa_cons (pe_lst (pa_cons pe_str (pa_cons pe_str pa_nil))) pa_nil))) pa_nil)) (pv 4)) pa_nil)))))))), ?_⟩
  obtain ⟨k, rfl⟩ : ∃ k : Nat, m = k + 1 := ⟨(m - 1).toNat, by omega⟩
  have ek : ((k : Int) + 1).toNat = k + 1 := by omega
  rw [ek] at q
  refine ⟨_, rfl, b, l, 8, rfl, hb, by decide, by decide, fun way H1 w0 w1 bx1 => ?_⟩
  have leaf : ∀ N : V → Hp → Prop, (∀ v H', Q v H' → N v H') → tIf (tAnd (tTest (tOp rEq (tVar 3) (tC (.int 0)))) (tTest (tOp rEq (tCall sp_pull [] E0 (tCons (tVar 0) (tCons (tC (V.int 2)) tNil))) (tC (.int 0))))) (tTup (tCons (tC (.str "any")) tNil)) (tCall (sp_test K) [] E0 (tCons (tVar 0) (tCons (tVar 1) tNil))) [some (.ref b), some (.ref a), some (.int ((k : Int) + 1)), some (.int way), none, none] H1 N := by
    intro N hN
    have tst : ∀ H2, Bx b l H1 H2 → (tCall (sp_test K) [] E0 (tCons (tVar 0) (tCons (tVar 1) tNil))) [some (.ref b), some (.ref a), some (.int ((k : Int) + 1)), some (.int way), none, none] H2 N := fun H2 bx2 =>
      ⟨_, rfl, _, rfl, b, l, a, S, fs, rfl, bx2.bag, hbS, (tr.bx bx1).bx bx2, dp_mono ((bx1.trans bx2).same hbS) hD, hok, hfl, fun v fl mk H3 bx3 hfl' hmk hv => hN _ _ (q v (.test fl.1 mk) H3 ((bx1.trans bx2).trans bx3) ⟨fl, hfl', rfl, hmk⟩ hv)⟩
    refine ⟨_, rfl, rfl, _, rfl, ite2 (fun c => ?_) (fun c => ?_)⟩
    · refine ⟨_, rfl, b, l, 2, rfl, bx1.bag, by decide, by decide, fun e H2 e0 e1 bx2 => ⟨rfl, _, rfl, ite2 (fun c2 => ?_) (fun c2 => ?_)⟩⟩
      · refine ⟨by show 1 ≤ sizeLine; decide, fun t ht => hN _ _ (q _ .any _ ((bx1.trans bx2).trans (Bx.new bx2.bag ht)) trivial ?_)⟩
        unfold toD
        exact .tup (SqT.of (dl_upd_at ((tr.bx bx1).bx bx2) ht)) (.cons (.str _) .nil)
      · exact tst H2 bx2
    · exact tst H1 (Bx.refl bx1.bag)
  refine ⟨_, rfl, _, _, rfl, rfl, _, rfl, ite2 (fun c => ?_) (fun c => ?_)⟩
  · exact iteT (leaf _ fun _ _ h => h)
  have hk1 : 1 ≤ k := by
    have := of_decide_eq_false (Bool.eq_false_iff.mpr c)
    omega
  refine ⟨_, rfl, _, _, rfl, rfl, _, rfl, ite2 (fun c2 => ?_) (fun c2 => ?_)⟩
  · exact leaf _ fun _ _ h => h
  refine ⟨_, rfl, rfl, _, rfl, ite2 (fun c3 => ?_) (fun c3 => ?_)⟩
  · refine ⟨_, rfl, _, rfl, _, rfl, _, _, rfl, rfl, b, l, a, _, S, fs, rfl, bx1.bag, hbS, tr.bx bx1, dp_mono (bx1.same hbS) hD, hok, hfl, by omega, by omega, fun v cc H2 bx2 hcc hv => ⟨by show 2 ≤ sizeLine; decide, fun t ht => ?_⟩⟩
    refine q _ (.node "not" [cc]) _ ((bx1.trans bx2).trans (Bx.new bx2.bag ht)) ⟨.inl ⟨rfl, rfl⟩, fun x hx => ?_⟩ ?_
    · rw [List.mem_singleton.mp hx]
      have e : ((k : Int) + 1 - 1).toNat = k := by omega
      rw [e] at hcc
      exact hcc
    · unfold toD toDs toDs
      have tr2 := (tr.bx bx1).bx bx2
      exact .tup (SqT.of (dl_upd_at tr2 ht)) (.cons (.str _) (.cons (dp_mono (dl_same_new tr2 ht) hv) .nil))
  · refine ⟨_, rfl, b, l, 2, rfl, bx1.bag, by decide, by decide, fun e H2 e0 e1 bx2 => ⟨2, e, rfl, rfl, 2 + e, rfl, by omega, by omega, fun D hDn => ?_⟩⟩
    have bxA := bx1.trans bx2
    have hDH : H D = none := bxA.free hDn
    refine lc_bagI (walk_range (lo := 0) (n := (2 + e).toNat)) S hbS bxA.bag hDn (fun i y G => ∃ c, Gd fs k c ∧ Dp K G y (toD c)) (fun i y G G' sm ⟨c, h1, h2⟩ => ⟨c, h1, dp_mono sm h2⟩) (fun _ _ => trivial) (by omega) (fun i x H3 H4 Qe Z hi bx3 sm hDl hq hy => ?_) (fun H3 ys bx3 hyl hD3 hp => ?_)
    · obtain ⟨rfl, rfl⟩ := hy
      obtain ⟨xsD, hxD⟩ := hDl
      have trD : Tr H4 (D :: S) := ((tr.bx bxA).bx bx3).cons hxD
      refine ⟨rfl, yes ?_⟩
      refine ⟨_, rfl, _, rfl, _, rfl, _, _, rfl, rfl, b, l, a, _, D :: S, fs, rfl, bx3.bag, List.mem_cons_of_mem _ hbS, trD, dp_mono ((bxA.same hbS).trans sm) hD, hok, hfl, by omega, by omega, fun v cc H5 bx5 hcc hv => hq _ H5 bx5 ⟨cc, ?_, hv⟩⟩
      have e : ((k : Int) + 1 - 1).toNat = k := by omega
      rw [e] at hcc
      exact hcc
    · obtain ⟨cs, hcl, hcs⟩ := choose_list (R := fun i y (c : Cd) => Gd fs k c ∧ Dp K (dl H3 (D :: S)) y (toD c)) hp
      have bxB := bxA.trans bx3
      refine ⟨_, rfl, by show 2 ≤ sizeLine; decide, fun p hpn => ?_⟩
      have bp : Bx b l H3 (upd H3 p (.lst [.str "and", .str "or"])) := Bx.new bx3.bag hpn
      refine ⟨b, l, p, _, rfl, bp.bag, of_new bx3.bag hpn, by show 1 ≤ 2; decide, by show 2 ≤ 100000; decide, fun x H5 hx bx5 => ?_⟩
      have bxC := (bxB.trans bp).trans bx5
      have nDb : D ≠ b := hb.ne_new hDH
      have hD5 : H5 D = some (.lst ys) := bx5.keep D _ nDb (bp.keep D _ nDb hD3)
      obtain ⟨kk, rfl, hkk⟩ : ∃ kk : Str, x = .str kk ∧ (kk = "and" ∨ kk = "or") := by
        rcases List.mem_cons.mp hx with rfl | hx
        · exact ⟨_, rfl, .inl rfl⟩
        · rw [List.mem_singleton.mp hx]
          exact ⟨_, rfl, .inr rfl⟩
      refine ⟨by show 1 ≤ sizeLine; decide, fun p2 hp2 => ?_⟩
      have s2 := same_new (o := .lst [.str kk]) hp2
      refine ⟨_, rfl, p2, D, _, _, rfl, rfl, upd_same, s2 _ _ hD5, szl (by show 1 + ys.length ≤ _; omega), fun p3 hp3 => ?_⟩
      refine ⟨p3, _, rfl, .inl ⟨SqL.of upd_same, fun t ht => ?_⟩⟩
      have b2 := Bx.new (o := .lst [.str kk]) bxC.bag hp2
      have b3 := Bx.new (o := .lst ([V.str kk] ++ ys)) b2.bag hp3
      have b4 := Bx.new (o := .tup ([V.str kk] ++ ys)) b3.bag ht
      have bxD := ((bxC.trans b2).trans b3).trans b4
      refine q _ (.node kk cs) _ bxD ⟨.inr ⟨hkk, by omega, by omega⟩, fun x hx => ?_⟩ ?_
      · obtain ⟨i, hi⟩ := List.mem_iff_getElem?.mp hx
        have hil := (List.getElem?_eq_some_iff.mp hi).1
        exact (hcs i _ x (List.getElem?_eq_getElem (by omega)) hi).1
      · unfold toD
        rw [toDs_map]
        have tr4 := ((((tr.bx bxC).bx b2).bx b3))
        refine .tup (SqT.of (dl_upd_at tr4 ht)) (.cons (.str _) (dpa_of (by rw [List.length_map, hcl]; rfl) fun i v d hv hd => ?_))
        rw [List.getElem?_map] at hd
        cases ec : cs[i]? with
        | none => rw [ec] at hd; cases hd
        | some c =>
          rw [ec] at hd
          cases hd
          have h0 := (hcs i v c hv ec).2
          have h1 := dp_mono (dl_sub fun a ha => List.mem_cons_of_mem _ ha) h0
          exact dp_mono ((((bp.trans bx5).trans b2).trans b3).trans b4 |>.same hbS) h1
theorem ok__law_tree (T : Txt K mg) {f : Addr} {fd : FuncData} (F : Fun K "_law_tree" "_law_tree" s__law_tree f fd) (b : Binds K fd ["_law_bag_here", "_law_fields_here", "_law_deep"] []) (g : mg "_law_tree" = some (.ref f)) : ∀ n, FnOk P w K mg base CX0 (n + 4) f fd ["_law_bag_here", "_law_fields_here", "_law_deep"] (sp_tree K n)
  | 0 => by
    have no : ∀ vs H Q E, ¬ sp_tree K 0 vs H Q E := fun vs H Q E h => by
      obtain ⟨_, _, _, m, _, _, _, _, _, _, _, _, _, h1, h2, _⟩ := h
      omega
    exact ⟨fun vs H Q E h => absurd h (no vs H Q E), fun A outer s H args us vs Q E _ _ _ _ h => absurd h (no vs H Q E)⟩
  | n + 1 => ok__law_tree_step T F (ok__law_tree T F b g n) b g
/-! the law's own functions on conditions -/
def sp_partsL (K : PySem.W.Frag) : Sp := fun vs H Q _ => ∃ (v : V) (c : Cd) (n : Nat), vs = [v] ∧ Dp K H v (toD c) ∧ Wn n c ∧
  ∀ (p : Addr) (xs : List V) (H' : Hp), Same H H' → H p = none → H' p = some (.lst xs) → DpAll K H xs ((parts c).map toD) → Q (.ref p) H'
theorem ok__law_parts {f : Addr} {fd : FuncData} (T : Txt K mg) (F : Fun K "_law_parts" "_law_parts" s__law_parts f fd) : FnOk P w K mg base CX0 1 f fd ["_law_tree_here"] (sp_partsL K) := by
  refine F.ok sc__law_parts (fun vs H Q E h => ?_) (fun cdv A outer s H vs Q E hr h => ?_)
  · obtain ⟨v, c, n, rfl, _⟩ := h
    rfl
  obtain ⟨v, c, n, rfl, hv, hw, q⟩ := h
  obtain ⟨m, rfl⟩ := hw.some
  obtain ⟨a, k, xs, rfl, hs, h1, h2, h3, h4⟩ := tree_open hv hw
  refine ⟨_, (pss_one (ps_ret (pe_ifExp (pt_cmpR (op_in_seqK (K := K)) (pe_ix (ix_tupK (K := K)) (pv 0) pe_int (fun _ _ => rfl)) (pe_tup (pa_cons pe_str (pa_cons pe_str pa_nil))) (by rfl)) (pe_lst pa_nil) (pe_callTy (call_list_ofK (K := K)) (by rfl) T.m_list (by decide +kernel) (pa_cons (pe_slice (sl_tupK (K := K)) (pv 0) (po_some pe_int) po_none) pa_nil))))), ?_⟩
  refine ⟨_, rfl, a, _, 0, .str k, rfl, rfl, hs, at0 _ _, by show 2 ≤ sizeLine; decide, fun t ht => ?_⟩
  have s1 := same_new (o := .tup [.str "any", .str "test"]) ht
  refine ⟨t, _, rfl, .inr (SqT.of upd_same), rfl, rfl, _, rfl, ite2 (fun c1 => ?_) (fun c1 => ?_)⟩
  · refine ⟨Nat.zero_le _, fun p hp => q p [] _ (s1.trans (same_new hp)) (s1.free hp) upd_same ?_⟩
    rw [h1 c1]
    exact .nil
  · refine ⟨_, rfl, 1, rfl, a, _, rfl, Same.seqT s1 hs, fun z => absurd z (cut_tail_ne _ _), fun _ t2 ht2 => ?_⟩
    rw [cut_tail]
    have s2 := same_new (o := .tup xs) ht2
    refine ⟨t2, _, rfl, .inr (SqT.of upd_same), fun p hp => ?_⟩
    exact q p xs _ ((s1.trans s2).trans (same_new hp)) ((s1.trans s2).free hp) upd_same (h2 (Bool.eq_false_iff.mpr c1))
def sp_many (K : PySem.W.Frag) (g : Cd → Int) (n : Nat) : Sp := fun vs H Q _ => ∃ (v : V) (c : Cd), vs = [v] ∧ Dp K H v (toD c) ∧ Wn n c ∧ ∀ H', Same H H' → Q (.int (g c)) H'
theorem none_many {g : Cd → Int} {f : Addr} {fd : FuncData} {ps : List Str} {k : Nat} : FnOk P w K mg base CX0 k f fd ps (sp_many K g 0) := by
  have no : ∀ vs H Q E, ¬ sp_many K g 0 vs H Q E := fun vs H Q E h => by
    obtain ⟨_, _, _, _, hw, _⟩ := h
    exact hw
  exact ⟨fun vs H Q E h => absurd h (no vs H Q E), fun A outer s H args us vs Q E _ _ _ _ h => absurd h (no vs H Q E)⟩
theorem ok__law_many_step {f : Addr} {fd : FuncData} {n : Nat} (T : Txt K mg) (F : Fun K "_law_many" "_law_many" s__law_many f fd) (G__law_many : FnOk P w K mg base CX0 (n + 1) f fd ["_law_tree_here"] (sp_many K (fun c => (size c : Int)) n)) (b__law_many : Binds K fd ["_law_tree_here"] []) (g__law_many : mg "_law_many" = some (.ref f)) : FnOk P w K mg base CX0 (n + 2) f fd ["_law_tree_here"] (sp_many K (fun c => (size c : Int)) (n + 1)) := by
  obtain ⟨f__law_parts, fd__law_parts, F__law_parts, b__law_parts, g__law_parts⟩ := T.h__law_parts
  have F__law_many := F
  have G__law_parts := ok__law_parts (P := P) (w := w) (base := base) T F__law_parts
  refine F.ok sc__law_many (fun vs H Q E h => ?_) (fun cdv A outer s H vs Q E hr h => ?_)
  · obtain ⟨v, c, rfl, _⟩ := h
    rfl
  obtain ⟨v, c, rfl, hv, hw, q⟩ := h
  have hr__law_parts : Room 1 _ := hr.mono (by omega)
  have hr__law_many : Room (n + 1) _ := hr
  refine ⟨_, (pss_one (ps_ret (pe_op op_add pe_int (pe_callB (cr_sumK (K := K) rfl) (by rfl) T.m_sum (by decide +kernel) (pa_cons (pe_lc (own := [("_law_part", 1)]) (g := gName 1) (by rfl) sc__law_many.nd (pi_listK (K := K) (pe_call G__law_parts hr__law_parts (by rfl) g__law_parts F__law_parts.kp b__law_parts .nil pass0 (pa_cons (pv 0) pa_nil))) (blkOk_by (own := [("_law_part", 1)]) (N := N__law_many) (sc := defScope s__law_many) (by decide +kernel)) (fun _ _ _ _ _ => pg_name (i := 1) sc__law_many.nd rfl (.inl rfl)) (fun _ _ _ _ _ => pts_nil) (fun _ _ _ _ _ => (pe_call G__law_many hr__law_many (by rfl) g__law_many F__law_many.kp b__law_many .nil pass0 (pa_cons (pv 1) pa_nil)))) pa_nil))))), ?_⟩
  refine ⟨_, rfl, v, c, n + 1, rfl, hv, hw, fun p xs H1 s1 hp hL hall => ⟨p, rfl, ⟨_, SqL.of hL⟩, fun D hD => ?_⟩⟩
  have hl := dpa_len' hall
  have hwp := hw.parts
  refine lc_each (parts c) hl walk_list hD (fun c => .int (size c)) (fun H' s' => s'.seq (SqL.of hL)) (by omega) (fun i x pc H2 Qe Z hx hpc sm hq => ?_) (fun H2 sm hD2 => ?_)
  · refine ⟨rfl, yes ?_⟩
    exact ⟨_, rfl, x, pc, rfl, dp_mono (s1.trans sm) (dpa_get' hall hx hpc), hwp.2 pc (List.mem_of_getElem? hpc), fun H4 s4 => hq H4 s4⟩
  · refine ⟨D, (parts c).map fun c => (size c : Int), rfl, SqL.of (by rw [hD2, List.map_map]; rfl), _, _, rfl, rfl, ?_⟩
    show Q (.int (1 + ((parts c).map fun c => (size c : Int)).sum)) _
    rw [← size_eq]
    exact q _ (s1.trans sm)
theorem ok__law_many (T : Txt K mg) {f : Addr} {fd : FuncData} (F : Fun K "_law_many" "_law_many" s__law_many f fd) (b : Binds K fd ["_law_tree_here"] []) (g : mg "_law_many" = some (.ref f)) : ∀ n, FnOk P w K mg base CX0 (n + 1) f fd ["_law_tree_here"] (sp_many K (fun c => (size c : Int)) n)
  | 0 => none_many
  | n + 1 => ok__law_many_step T F (ok__law_many T F b g n) b g
end
end Hr

set_option Elab.async false
set_option linter.all false
set_option maxRecDepth 100000
set_option maxHeartbeats 4000000
namespace Hr
open PySem PySem.Spec PyProof.Rows L2
section
variable {P : Program} {w : World} {K : PySem.W.Frag} {mg : Str → Option Value} {base : Heap}
def sp_field : Sp := fun vs H Q _ => ∃ t, vs = [.str t] ∧ t.length ≤ 50000 ∧ ∀ H', Same H H' → Q (.bl (fieldOk t)) H'
theorem ok_is_field_name {f : Addr} {fd : FuncData} (T : Txt K mg) (F : Fun K "is_field_name" "is_field_name" s_is_field_name f fd) : FnOk P w K mg base CX0 3 f fd ["text"] sp_field := by
  obtain ⟨f_is_name, fd_is_name, F_is_name, b_is_name, g_is_name⟩ := T.h_is_name
  have G_is_name := ok_is_name (P := P) (w := w) (base := base) T F_is_name
  refine F.ok sc_is_field_name (fun vs H Q E h => ?_) (fun cdv A outer s H vs Q E hr h => ?_)
  · obtain ⟨t, rfl, _⟩ := h
    rfl
  obtain ⟨t, rfl, ht, q⟩ := h
  have hr_is_name := hr
  refine ⟨_, (pss_one (ps_ret (pe_and (pe_call G_is_name hr_is_name (by rfl) g_is_name F_is_name.kp b_is_name .nil pass0 (pa_cons (pv 0) pa_nil)) (pe_one (pe_cmpR op_ne (pv 0) pe_str (nomark _)))))), ?_⟩
  refine ⟨_, rfl, t, rfl, ht, fun H1 s1 => ⟨_, rfl, ?_⟩⟩
  cases e : consists t nameC with
  | true =>
    refine iteT ⟨_, rfl, rfl, ?_⟩
    have e2 : fieldOk t = !decide (V.str t = V.str "any") := by
      unfold fieldOk
      rw [e, Bool.true_and, Bool.eq_iff_iff]
      simp
    rw [← e2]
    exact q H1 s1
  | false =>
    have e2 : fieldOk t = false := by
      unfold fieldOk
      rw [e]
      rfl
    exact iteF (e2 ▸ q H1 s1)
theorem th_ty {n : Nat} {t : Th} (h : WT n t) : (∃ s, t = .str s) ∨ tyN (toT t) = "tuple" := by
  cases t with
  | str s => exact .inl ⟨s, rfl⟩
  | nil => exact .inr (by unfold toT; rfl)
  | tup k xs => exact .inr (by unfold toT; rfl)
def sp_istest (K : PySem.W.Frag) : Sp := fun vs H Q _ => ∃ (x y : V) (t u : Th) (n : Nat), vs = [x, y] ∧ Dp K H x (toT t) ∧ Dp K H y (toT u) ∧ WT n t ∧ WT n u ∧ ∀ H', Same H H' → Q (.bl (testOk [t, u])) H'
theorem WT.str {n : Nat} {s : Str} (h : WT n (.str s)) : PyData.strOk s = true ∧ s.length ≤ 1000 := by
  cases n with
  | zero => exact h.elim
  | succ m => exact h
theorem testOk_no1 {t u : Th} (h : tyN (toT t) = "tuple") : testOk [t, u] = false := by
  cases t with
  | str s =>
    have h' : tyN (.str s) = "tuple" := by unfold toT at h; exact h
    exact absurd (show ("str" : String) = "tuple" from h') (by decide)
  | nil => rfl
  | tup k xs => rfl
theorem testOk_no2 {t u : Th} (h : tyN (toT u) = "tuple") : testOk [t, u] = false := by
  cases u with
  | str s =>
    have h' : tyN (.str s) = "tuple" := by unfold toT at h; exact h
    exact absurd (show ("str" : String) = "tuple" from h') (by decide)
  | nil => cases t <;> rfl
  | tup k xs => cases t <;> rfl
theorem ok_is_test_of {f : Addr} {fd : FuncData} (T : Txt K mg) (F : Fun K "is_test_of" "is_test_of" s_is_test_of f fd) : FnOk P w K mg base CX0 4 f fd ["field", "value"] (sp_istest K) := by
  obtain ⟨f_is_field_name, fd_is_field_name, F_is_field_name, b_is_field_name, g_is_field_name⟩ := T.h_is_field_name
  obtain ⟨f_is_value, fd_is_value, F_is_value, b_is_value, g_is_value⟩ := T.h_is_value
  have G_is_field_name := ok_is_field_name (P := P) (w := w) (base := base) T F_is_field_name
  have G_is_value := ok_is_value (P := P) (w := w) (base := base) T F_is_value
  refine F.ok sc_is_test_of (fun vs H Q E h => ?_) (fun cdv A outer s H vs Q E hr h => ?_)
  · obtain ⟨x, y, t, u, n, rfl, _⟩ := h
    rfl
  obtain ⟨x, y, t, u, n, rfl, hx, hy, hwt, hwu, q⟩ := h
  have hr_is_field_name := hr
  have hr_is_value : Room 2 _ := hr.mono (by decide)
  refine ⟨_, (pss_cons (ps_if (PW.pt (pw_or (pt_not (pt_val (pe_callB (call_isiK' (K := K)) (by rfl) T.m_isinstance (by decide +kernel) (pa_cons (pv 0) (pa_cons (pe_bltn (v := .ty "str") (by rfl) T.m_str (by decide +kernel) rfl) pa_nil))))) (pw_or1 (pt_not (pt_val (pe_callB (call_isiK' (K := K)) (by rfl) T.m_isinstance (by decide +kernel) (pa_cons (pv 1) (pa_cons (pe_bltn (v := .ty "str") (by rfl) T.m_str (by decide +kernel) rfl) pa_nil)))))))) (pss_one (ps_ret pe_bl)) pss_nil)
      (pss_one (ps_ret (pe_and (pe_call G_is_field_name hr_is_field_name (by rfl) g_is_field_name F_is_field_name.kp b_is_field_name .nil pass0 (pa_cons (pv 0) pa_nil)) (pe_one (pe_call G_is_value hr_is_value (by rfl) g_is_value F_is_value.kp b_is_value .nil pass0 (pa_cons (pv 1) pa_nil))))))), ?_⟩
  rcases th_ty hwt with ⟨s1, rfl⟩ | e1
  · have k1 : kitB (tyN (toT (.str s1))) "str" = some true := by unfold toT; exact kit_str_str
    refine ⟨_, rfl, _, _, _, _, _, rfl, .ty _, ty_of hx, kit_ty k1, _, rfl, bF rfl ?_⟩
    rcases th_ty hwu with ⟨s2, rfl⟩ | e2
    · have k2 : kitB (tyN (toT (.str s2))) "str" = some true := by unfold toT; exact kit_str_str
      refine ⟨_, rfl, _, _, _, _, _, rfl, .ty _, ty_of hy, kit_ty k2, _, rfl, bF rfl ?_⟩
      unfold toT at hx hy
      cases hx
      cases hy
      refine ⟨_, rfl, s1, rfl, by have := hwt.str.2; omega, fun H1 r1 => ⟨_, rfl, ?_⟩⟩
      cases e : fieldOk s1 with
      | true =>
        refine iteT ⟨_, rfl, s2, rfl, by have := hwu.str.2; omega, fun H2 r2 => ?_⟩
        have e3 : testOk [.str s1, .str s2] = consists s2 valueC := by
          show (fieldOk s1 && consists s2 valueC) = _
          rw [e]
          rfl
        rw [← e3]
        exact q H2 (r1.trans r2)
      | false =>
        have e3 : testOk [.str s1, .str s2] = false := by
          show (fieldOk s1 && consists s2 valueC) = _
          rw [e]
          rfl
        exact iteF (e3 ▸ q H1 r1)
    · refine ⟨_, rfl, _, _, _, _, _, rfl, .ty _, ty_of hy, kit_ty (by rw [e2]; exact kit_tuple_str), _, rfl, bT rfl ?_⟩
      have qf : Q (.bl false) H := (testOk_no2 (t := .str s1) e2) ▸ q H (Same.refl _)
      exact qf
  · refine ⟨_, rfl, _, _, _, _, _, rfl, .ty _, ty_of hx, kit_ty (by rw [e1]; exact kit_tuple_str), _, rfl, bT rfl ?_⟩
    have qf : Q (.bl false) H := (testOk_no1 (u := u) e1) ▸ q H (Same.refl _)
    exact bT rfl qf
end
end Hr

set_option Elab.async false
set_option linter.all false
set_option maxRecDepth 100000
set_option maxHeartbeats 4000000
namespace Hr
open PySem PySem.Spec PyProof.Rows L2
section
variable {P : Program} {w : World} {K : PySem.W.Frag} {mg : Str → Option Value} {base : Heap}
theorem thing_open {H : Hp} {v : V} {t : Th} (h : Dp K H v (toT t)) : (∃ s, t = .str s ∧ v = .str s) ∨ (∃ a, t = .nil ∧ v = .ref a ∧ SqT K H a []) ∨ (∃ (a : Addr) (k : Str) (xs : List Th) (ys : List V), t = .tup k xs ∧ v = .ref a ∧ SqT K H a (.str k :: ys) ∧ DpAll K H ys (xs.map toT)) := by
  cases t with
  | str s =>
    unfold toT at h
    cases h
    exact .inl ⟨s, rfl, rfl⟩
  | nil =>
    unfold toT at h
    cases h with
    | tup hs ha =>
      cases ha
      exact .inr (.inl ⟨_, rfl, rfl, hs⟩)
  | tup k xs =>
    unfold toT at h
    rw [toTs_map] at h
    cases h with
    | tup hs ha =>
      cases ha with
      | cons h1 h2 =>
        cases h1
        exact .inr (.inr ⟨_, k, xs, _, rfl, rfl, hs, h2⟩)
def sp_form (K : PySem.W.Frag) : Sp := fun vs H Q _ => ∃ (v : V) (t : Th) (n : Nat), vs = [v] ∧ Dp K H v (toT t) ∧ WT n t ∧ ∀ H', Same H H' → Q (.bl (form t)) H'
theorem testOk_len {xs : List Th} (h : xs.length ≠ 2) : testOk xs = false := by
  match xs with
  | [] => rfl
  | [x] => cases x <;> rfl
  | [_, _] => exact absurd rfl h
  | _ :: _ :: _ :: _ =>
    rename_i a b c d
    cases a <;> first | rfl | (cases b <;> rfl)
theorem at_i {α : Type} {xs : List α} {i : Nat} {x : α} (h : xs[i]? = some x) : atI xs (i : Int) = some x := atI_nat h
def sp_kids (K : PySem.W.Frag) : Sp := fun vs H Q _ => ∃ (v : V) (k : Str) (xs : List Th), vs = [v] ∧ Dp K H v (toT (.tup k xs)) ∧
  ∀ (p : Addr) (ys : List V) (H' : Hp), Same H H' → SqT K H' p ys → DpAll K H ys ((kids (.tup k xs)).map toT) → Q (.ref p) H'
theorem ok_parts_of {f : Addr} {fd : FuncData} (T : Txt K mg) (F : Fun K "parts_of" "parts_of" s_parts_of f fd) : FnOk P w K mg base CX0 1 f fd ["condition"] (sp_kids K) := by
  refine F.ok sc_parts_of (fun vs H Q E h => ?_) (fun cdv A outer s H vs Q E hr h => ?_)
  · obtain ⟨v, k, xs, rfl, _⟩ := h
    rfl
  obtain ⟨v, k, xs, rfl, hv, q⟩ := h
  refine ⟨_, (pss_cons (ps_if (pt_cmpR (op_in_seqK (K := K)) (pe_ix (ix_tupK (K := K)) (pv 0) pe_int (fun _ _ => rfl)) (pe_tup (pa_cons pe_str (pa_cons pe_str pa_nil))) (by rfl)) (pss_one (ps_ret (pe_tup pa_nil))) pss_nil)
      (pss_one (ps_ret (pe_slice (sl_tupK (K := K)) (pv 0) (po_some pe_int) po_none)))), ?_⟩
  rcases thing_open hv with ⟨_, e, _⟩ | ⟨_, e, _⟩ | ⟨a, k', xs', ys, e, rfl, hs, hall⟩
  · cases e
  · cases e
  cases e
  refine ⟨_, rfl, a, _, 0, .str k, rfl, rfl, hs, at0 _ _, by show 2 ≤ sizeLine; decide, fun t ht => ?_⟩
  have s1 := same_new (o := .tup [.str "any", .str "test"]) ht
  have ek : kids (.tup k xs) = if leafW k = true then [] else xs := rfl
  refine ⟨t, _, rfl, .inr (SqT.of upd_same), rfl, rfl, _, rfl, ite2 (fun c1 => ?_) (fun c1 => ?_)⟩
  · refine ⟨Nat.zero_le _, fun p hp => q p [] _ (s1.trans (same_new hp)) (SqT.of upd_same) ?_⟩
    rw [ek, if_pos (show leafW k = true from c1)]
    exact .nil
  · refine ⟨_, rfl, 1, rfl, a, _, rfl, Same.seqT s1 hs, fun z => absurd z (cut_tail_ne _ _), fun _ t2 ht2 => ?_⟩
    rw [cut_tail]
    refine q t2 ys _ (s1.trans (same_new ht2)) (SqT.of upd_same) ?_
    rw [ek, if_neg (show ¬ leafW k = true from c1)]
    exact hall
end
end Hr

set_option Elab.async false
set_option linter.all false
set_option maxRecDepth 100000
set_option maxHeartbeats 4000000
namespace Hr
open PySem PySem.Spec PyProof.Rows L2
section
variable {P : Program} {w : World} {K : PySem.W.Frag} {mg : Str → Option Value} {base : Heap}
theorem ok_has_form {f : Addr} {fd : FuncData} (T : Txt K mg) (F : Fun K "has_form" "has_form" s_has_form f fd) : FnOk P w K mg base CX0 5 f fd ["thing"] (sp_form K) := by
  obtain ⟨f_is_test_of, fd_is_test_of, F_is_test_of, b_is_test_of, g_is_test_of⟩ := T.h_is_test_of
  have G_is_test_of := ok_is_test_of (P := P) (w := w) (base := base) T F_is_test_of
  refine F.ok sc_has_form (fun vs H Q E h => ?_) (fun cdv A outer s H vs Q E hr h => ?_)
  · obtain ⟨v, t, n, rfl, _⟩ := h
    rfl
  obtain ⟨v, t, n, rfl, hv, hw, q⟩ := h
  have hr_is_test_of := hr
  refine ⟨_, (pss_cons (ps_if (PW.pt (pw_or (pt_not (pt_val (pe_callB (call_isiK' (K := K)) (by rfl) T.m_isinstance (by decide +kernel) (pa_cons (pv 0) (pa_cons (pe_bltn (v := .ty "tuple") (by rfl) T.m_tuple (by decide +kernel) rfl) pa_nil))))) (pw_or1 (pt_cmpR op_eq (pe_callB (call_len_seqK (K := K)) (by rfl) T.m_len PySem.boot_len (pa_cons (pv 0) pa_nil)) pe_int (nomark _))))) (pss_one (ps_ret pe_bl)) pss_nil)
      (pss_cons (ps_set (i := 1) sc_has_form.nd rfl (.inl rfl) (pe_ix (ix_tupK (K := K)) (pv 0) pe_int (fun _ _ => rfl)))
      (pss_cons (ps_if (pt_cmpR op_eq (pv 1) pe_str (nomark _)) (pss_one (ps_ret (pe_cmpR op_eq (pe_callB (call_len_seqK (K := K)) (by rfl) T.m_len PySem.boot_len (pa_cons (pv 0) pa_nil)) pe_int (nomark _)))) pss_nil)
      (pss_cons (ps_if (pt_cmpR op_eq (pv 1) pe_str (nomark _)) (pss_one (ps_ret (pe_and (pe_cmpR op_eq (pe_callB (call_len_seqK (K := K)) (by rfl) T.m_len PySem.boot_len (pa_cons (pv 0) pa_nil)) pe_int (nomark _)) (pe_one (pe_call G_is_test_of hr_is_test_of (by rfl) g_is_test_of F_is_test_of.kp b_is_test_of .nil pass0 (pa_cons (pe_ix (ix_tupK (K := K)) (pv 0) pe_int (fun _ _ => rfl)) (pa_cons (pe_ix (ix_tupK (K := K)) (pv 0) pe_int (fun _ _ => rfl)) pa_nil))))))) pss_nil)
      (pss_cons (ps_if (pt_cmpR op_eq (pv 1) pe_str (nomark _)) (pss_one (ps_ret (pe_cmpR op_eq (pe_callB (call_len_seqK (K := K)) (by rfl) T.m_len PySem.boot_len (pa_cons (pv 0) pa_nil)) pe_int (nomark _)))) pss_nil)
      (pss_one (ps_ret (pe_and (pe_cmpR (op_in_seqK (K := K)) (pv 1) (pe_tup (pa_cons pe_str (pa_cons pe_str pa_nil))) (by rfl)) (pe_one (pe_cmpR op_ge (pe_callB (call_len_seqK (K := K)) (by rfl) T.m_len PySem.boot_len (pa_cons (pv 0) pa_nil)) pe_int (nomark _))))))))))), ?_⟩
  have hvv := hv
  rcases thing_open hv with ⟨s1, rfl, rfl⟩ | ⟨a, rfl, rfl, hs⟩ | ⟨a, k, xs, ys, rfl, rfl, hs, hall⟩
  · have k1 : kitB (tyN (toT (.str s1))) "tuple" = some false := by unfold toT; exact kit_str_tuple
    refine ⟨_, rfl, _, _, _, _, _, rfl, .ty _, ty_of hvv, kit_ty k1, _, rfl, bT rfl ?_⟩
    exact bT rfl (q H (Same.refl _))
  · have k1 : kitB (tyN (toT .nil)) "tuple" = some true := by unfold toT; exact kit_tuple_tuple
    refine ⟨_, rfl, _, _, _, _, _, rfl, .ty _, ty_of hvv, kit_ty k1, _, rfl, bF rfl ?_⟩
    refine ⟨_, rfl, a, [], rfl, .inr hs, rfl, _, rfl, ?_⟩
    exact bT rfl (q H (Same.refl _))
  · have k1 : kitB (tyN (toT (.tup k xs))) "tuple" = some true := by unfold toT; exact kit_tuple_tuple
    have hl := dpa_len' hall
    refine ⟨_, rfl, _, _, _, _, _, rfl, .ty _, ty_of hvv, kit_ty k1, _, rfl, bF rfl ?_⟩
    refine ⟨_, rfl, a, _, rfl, .inr hs, rfl, _, rfl, ifF (by intro e; have := V.int.inj e; rw [List.length_cons] at this; omega) ?_⟩
    refine ⟨_, rfl, a, _, 0, .str k, rfl, rfl, hs, at0 _ _, ?_⟩
    have q0 := q H (Same.refl _)
    have fe : form (.tup k xs) = (if k = "any" then decide (xs.length = 0) else if k = "test" then testOk xs else if k = "not" then decide (xs.length = 1) else (decide (k = "and") || decide (k = "or")) && decide (2 ≤ xs.length)) := rfl
    refine ⟨_, rfl, rfl, _, rfl, ite2 (fun c => ?_) (fun c => ?_)⟩
    · have ek : k = "any" := V.str.inj (of_decide_eq_true c)
      rw [fe, if_pos ek] at q0
      refine ⟨_, rfl, a, _, rfl, .inr hs, rfl, ?_⟩
      have e2 : decide (V.int ((V.str k :: ys).length : Int) = V.int 1) = decide (xs.length = 0) := dec_v (by rw [List.length_cons, hl]; omega)
      rw [e2]
      exact q0
    have e1 : k ≠ "any" := fun e => c (by rw [e]; exact decide_eq_true rfl)
    rw [fe, if_neg e1] at q0
    refine ⟨_, rfl, rfl, _, rfl, ite2 (fun c2 => ?_) (fun c2 => ?_)⟩
    · have ek : k = "test" := V.str.inj (of_decide_eq_true c2)
      rw [if_pos ek] at q0
      refine ⟨_, rfl, a, _, rfl, .inr hs, rfl, _, rfl, ite2 (fun c3 => ?_) (fun c3 => ?_)⟩
      · have e3 : xs.length = 2 := by
          have := V.int.inj (of_decide_eq_true c3)
          rw [List.length_cons, hl] at this
          omega
        obtain ⟨t1, t2, rfl⟩ := two_of e3
        cases hall with
        | @cons y1 _ _ _ h1 hr1 =>
          cases hr1 with
          | @cons y2 _ _ _ h2 hr2 =>
            cases hr2
            obtain ⟨m, rfl⟩ : ∃ m, n = m + 1 := by
              cases n with
              | zero => exact hw.elim
              | succ m => exact ⟨m, rfl⟩
            refine ⟨_, rfl, a, _, 1, y1, rfl, rfl, hs, at_i (i := 1) rfl, _, rfl, a, _, 2, y2, rfl, rfl, hs, at_i (i := 2) rfl, y1, y2, t1, t2, m, rfl, h1, h2, hw.2.2 t1 (by simp), hw.2.2 t2 (by simp), fun H1 s1 => ?_⟩
            have q1 := q H1 s1
            rw [fe, if_neg e1, if_pos ek] at q1
            exact q1
      · have e3 : xs.length ≠ 2 := fun e => c3 (by rw [List.length_cons, hl, e]; exact decide_eq_true rfl)
        rw [testOk_len e3] at q0
        exact q0
    have e2 : k ≠ "test" := fun e => c2 (by rw [e]; exact decide_eq_true rfl)
    rw [if_neg e2] at q0
    refine ⟨_, rfl, rfl, _, rfl, ite2 (fun c3 => ?_) (fun c3 => ?_)⟩
    · have ek : k = "not" := V.str.inj (of_decide_eq_true c3)
      rw [if_pos ek] at q0
      refine ⟨_, rfl, a, _, rfl, .inr hs, rfl, ?_⟩
      have e4 : decide (V.int ((V.str k :: ys).length : Int) = V.int 2) = decide (xs.length = 1) := dec_v (by rw [List.length_cons, hl]; omega)
      rw [e4]
      exact q0
    have e3 : k ≠ "not" := fun e => c3 (by rw [e]; exact decide_eq_true rfl)
    rw [if_neg e3] at q0
    refine ⟨_, rfl, by show 2 ≤ sizeLine; decide, fun t2 ht2 => ⟨t2, _, rfl, .inr (SqT.of upd_same), rfl, rfl, _, rfl, ?_⟩⟩
    have s2 := same_new (o := .tup [.str "and", .str "or"]) ht2
    have q2 := q _ s2
    rw [fe, if_neg e1, if_neg e2, if_neg e3] at q2
    have e5 := in_two k "and" "or"
    refine ite2 (fun c4 => ?_) (fun c4 => ?_)
    · have c5 : (decide (k = "and") || decide (k = "or")) = true := by rw [← e5]; exact c4
      rw [c5, Bool.true_and] at q2
      refine ⟨_, rfl, a, _, rfl, .inr (Same.seqT s2 hs), _, _, rfl, rfl, ?_⟩
      have e6 : decide ((3 : Int) ≤ ((V.str k :: ys).length : Int)) = decide (2 ≤ xs.length) := dec_p (by rw [List.length_cons, hl]; omega)
      show Q (.bl (decide ((3 : Int) ≤ ((V.str k :: ys).length : Int)))) _
      rw [e6]
      exact q2
    · have c5 : (decide (k = "and") || decide (k = "or")) = false := by rw [← e5]; exact Bool.eq_false_iff.mpr c4
      rw [c5, Bool.false_and] at q2
      exact q2
end
end Hr

set_option Elab.async false
set_option linter.all false
set_option maxRecDepth 100000
set_option maxHeartbeats 4000000
namespace Hr
open PySem PySem.Spec PyProof.Rows L2
section
variable {P : Program} {w : World} {K : PySem.W.Frag} {mg : Str → Option Value} {base : Heap}
theorem one_list {H : Hp} {D : Addr} {xs : List V} (h : H D = some (.lst xs)) : Lists H [D] := fun a ha => by
  rw [List.mem_singleton.mp ha]
  exact ⟨_, h⟩
/-- what stood ahead of D stands in a heap without D -/
theorem same_dl {H H' : Hp} {D : Addr} (s : Same H H') (hD : H D = none) : Same H (dl H' [D]) := fun a o e => by
  rw [dl_ne fun z => by rw [List.mem_singleton.mp z, hD] at e; cases e]
  exact s a o e
def sp_iscond (K : PySem.W.Frag) : Sp := fun vs H Q _ => ∃ (v : V) (t : Th) (n : Nat), vs = [v] ∧ Dp K H v (toT t) ∧ WT n t ∧ ∀ H', Same H H' → Q (.bl (isT 8 t && decide (cnt t ≤ 30))) H'
theorem ok_is_condition {f : Addr} {fd : FuncData} (T : Txt K mg) (F : Fun K "is_condition" "is_condition" s_is_condition f fd) : FnOk P w K mg base CX0 6 f fd ["thing"] (sp_iscond K) := by
  obtain ⟨f_has_form, fd_has_form, F_has_form, b_has_form, g_has_form⟩ := T.h_has_form
  obtain ⟨f_parts_of, fd_parts_of, F_parts_of, b_parts_of, g_parts_of⟩ := T.h_parts_of
  have G_has_form := ok_has_form (P := P) (w := w) (base := base) T F_has_form
  have G_parts_of := ok_parts_of (P := P) (w := w) (base := base) T F_parts_of
  refine F.ok sc_is_condition (fun vs H Q E h => ?_) (fun cdv A outer s H vs Q E hr h => ?_)
  · obtain ⟨v, t, n, rfl, _⟩ := h
    rfl
  obtain ⟨v, t, n, rfl, hv, hw, q⟩ := h
  have hr_has_form : Room 5 _ := hr.mono (by decide)
  have hr_parts_of : Room 1 _ := hr.mono (by decide)
  refine ⟨_, (pss_cons (ps_set (i := 1) sc_is_condition.nd rfl (.inl rfl) (pe_lst (pa_cons (pe_tup (pa_cons (pv 0) (pa_cons pe_int pa_nil))) pa_nil)))
      (pss_cons (ps_set (i := 2) sc_is_condition.nd rfl (.inl rfl) pe_int)
      (pss_cons (ps_while PassesOwn.never (pt_truth (pv 1) (by intro _; rfl)) (pss_cons (ps_asg (pe_bm0 PySem.F.plainAttrs_list PySem.F.slot_list_pop PySem.F.type_list_pop mt_pop (pv 1)) (pg_tup rfl (pgs_cons (pg_name (i := 3) sc_is_condition.nd rfl (.inl rfl)) (pgs_cons (pg_name (i := 4) sc_is_condition.nd rfl (.inr rfl)) pgs_nil))))
      (pss_cons (ps_aug (i := 2) sc_is_condition.nd rfl (.inl rfl) pe_int ip_add)
      (pss_cons (ps_if (PW.pt (pw_or (pt_cmpR op_gt (pv 2) (pe_gv (by rfl) T.c_MAX_SIZE) (nomark _)) (pw_or (pt_cmpR op_gt (pv 4) (pe_gv (by rfl) T.c_MAX_DEPTH) (nomark _)) (pw_or1 (pt_not (pt_val (pe_call G_has_form hr_has_form (by rfl) g_has_form F_has_form.kp b_has_form .nil pass0 (pa_cons (pv 3) pa_nil)))))))) (pss_one (ps_ret pe_bl)) pss_nil)
      (pss_one (ps_expr (pe_bm PySem.F.plainAttrs_list PySem.F.slot_list_extend PySem.F.type_list_extend mt_extend (pv 1) (pa_cons (pe_lc (own := [("inner", 5)]) (g := gName 5) (by rfl) sc_is_condition.nd (pi_tupK (K := K) (pe_call (FnOk.frame G_parts_of) hr_parts_of (by rfl) g_parts_of F_parts_of.kp b_parts_of .nil pass0 (pa_cons (pv 3) pa_nil))) (blkOk_by (own := [("inner", 5)]) (N := N_is_condition) (sc := defScope s_is_condition) (by decide +kernel)) (fun _ _ _ _ _ => pg_name (i := 5) sc_is_condition.nd rfl (.inl rfl)) (fun _ _ _ _ _ => pts_nil) (fun _ _ _ _ _ => (pe_tup (pa_cons (pv 5) (pa_cons (pe_op op_add (pv 4) pe_int) pa_nil))))) pa_nil))))))))
      (pss_one (ps_ret pe_bl))))), ?_⟩
  refine ⟨_, rfl, by show 2 ≤ sizeLine; decide, fun tp htp => ⟨by show 1 ≤ sizeLine; decide, fun D hD => ?_⟩⟩
  have s1 := same_new (o := .tup [v, .int 1]) htp
  have s2 := same_new (o := .lst [.ref tp]) hD
  have hDH : H D = none := s1.free hD
  have sH : Same H (dl (upd (upd H tp (.tup [v, .int 1])) D (.lst [.ref tp])) [D]) := same_dl (s1.trans s2) hDH
  have hr0 : (isT 8 t && decide (cnt t ≤ 30)) = (okW [(t, 1)] && decide (0 + cntW [(t, 1)] ≤ 30)) := by
    show _ = ((isT (9 - 1) t && true) && decide (0 + (cnt t + 0) ≤ 30))
    rw [Bool.and_true, Nat.zero_add, Nat.add_zero]
  refine ⟨fun m σ H' => ∃ (W : List It2) (ws : List V) (sz : Nat) (x3 x4 : Option V), σ = [some v, some (.ref D), some (.int sz), x3, x4, none] ∧ Same H (dl H' [D]) ∧ H' D = some (.lst ws) ∧ DpAll K (dl H' [D]) ws (W.map itD) ∧ (∀ p ∈ W, WT n p.1) ∧ sz ≤ 30 ∧ (isT 8 t && decide (cnt t ≤ 30)) = (okW W && decide (sz + cntW W ≤ 30)) ∧ W.length ≤ 1000 * (sz + 1) ∧ cntW W = m,
    ⟨cntW [(t, 1)], [(t, 1)], [.ref tp], 0, none, none, rfl, sH, upd_same, .cons (.tup (SqT.of ?_) (.cons (dp_mono sH hv) (.cons (.int _) .nil))) .nil, fun p hp => by rw [List.mem_singleton.mp hp]; exact hw, by decide, hr0, by show 1 ≤ 1000 * (0 + 1); decide, rfl⟩, ?_⟩
  · rw [dl_ne (by simpa using (ne_of_none (upd_same (H := H) (a := tp) (o := .tup [v, .int 1])) hD)), upd_ne (ne_of_none upd_same hD), upd_same]
    rfl
  rintro m σ H' ⟨W, ws, sz, x3, x4, rfl, sm, hD', hws, hWT, hsz, hR, hlen, hm⟩
  have hwl := dpa_len' hws
  rcases List.eq_nil_or_concat W with e | ⟨W0, p, e⟩
  · subst e
    cases hws
    refine ⟨_, rfl, _, .inl ⟨_, SqL.of hD', rfl⟩, bF rfl ?_⟩
    have e0 : (isT 8 t && decide (cnt t ≤ 30)) = true := by
      rw [hR]
      show (true && decide (sz + 0 ≤ 30)) = true
      rw [decide_eq_true (by omega)]
      rfl
    have q1 := q H' (sm.trans dl_le)
    rw [e0] at q1
    exact q1
  rw [List.concat_eq_append] at e
  subst e
  obtain ⟨pt, d⟩ := p
  rw [List.map_append] at hws
  obtain ⟨ws0, w, rfl, hws0, hwd⟩ := dpa_snoc (ds := W0.map itD) (e := itD (pt, d)) hws
  refine ⟨_, rfl, _, .inl ⟨_, SqL.of hD', rfl⟩, bT (by cases ws0 <;> rfl) ?_⟩
  have hptW : WT n pt := hWT (pt, d) (by simp)
  have hdl : dl (upd H' D (.lst ws0)) [D] = dl H' [D] := dl_upd List.mem_cons_self
  have hD1 : (upd H' D (.lst ws0)) D = some (.lst ws0) := upd_same
  cases hwd with
  | @tup tpw zs _ hzs hzall =>
    cases hzall with
    | @cons x _ _ _ hx hr1 =>
      cases hr1 with
      | cons hd1 hr2 =>
        cases hd1
        cases hr2
        rw [okW_app, cntW_app] at hR
        rw [cntW_app] at hm
        rw [List.length_append, List.length_singleton] at hlen
        have c1 : cntW [(pt, d)] = cnt pt := by show cnt pt + 0 = _; omega
        have o1 : okW [(pt, d)] = isT (9 - d) pt := by show (isT (9 - d) pt && true) = _; rw [Bool.and_true]
        rw [c1, o1] at hR
        rw [c1] at hm
        have hcp := cnt_pos pt
        have hx1 : Dp K (upd H' D (.lst ws0)) x (toT pt) := dp_mono (by rw [← hdl]; exact dl_le) hx
        have hz1 : SqT K (upd H' D (.lst ws0)) tpw [x, .int d] := Same.seqT (by rw [← hdl]; exact dl_le) hzs
        have sH1 : Same H (upd H' D (.lst ws0)) := sm.trans (by rw [← hdl]; exact dl_le)
        refine ⟨fun σ2 H2 => ∃ m', m' < m ∧ ∃ (W : List It2) (ws : List V) (sz : Nat) (x3 x4 : Option V), σ2 = [some v, some (.ref D), some (.int sz), x3, x4, none] ∧ Same H (dl H2 [D]) ∧ H2 D = some (.lst ws) ∧ DpAll K (dl H2 [D]) ws (W.map itD) ∧ (∀ p ∈ W, WT n p.1) ∧ sz ≤ 30 ∧ (isT 8 t && decide (cnt t ≤ 30)) = (okW W && decide (sz + cntW W ≤ 30)) ∧ W.length ≤ 1000 * (sz + 1) ∧ cntW W = m', fun σ2 H2 h => h, ?_⟩
        refine ⟨_, rfl, .inl ⟨rfl, _, SqL.of hD'⟩, D, _, _, rfl, rfl, hD', last_at' _ _, ?_⟩
        rw [List.dropLast_concat]
        refine ⟨tpw, _, rfl, hz1, rfl, x, _, rfl, _, _, rfl, rfl, ?_⟩
        refine ⟨_, rfl, _, _, rfl, rfl, ?_⟩
        have no : ∀ H2, Same (upd H' D (.lst ws0)) H2 → (isT 8 t && decide (cnt t ≤ 30)) = false → Q (.bl false) H2 := fun H2 s2 e => e ▸ q H2 (sH1.trans s2)
        refine ⟨_, rfl, _, _, rfl, rfl, _, rfl, ite2 (fun c => ?_) (fun c => ?_)⟩
        · have c' : (30 : Int) < (sz : Int) + 1 := of_decide_eq_true c
          refine bT rfl (no _ (Same.refl _) ?_)
          rw [hR, decide_eq_false (by omega), Bool.and_false]
        have c' : ¬ (30 : Int) < (sz : Int) + 1 := of_decide_eq_false (Bool.eq_false_iff.mpr c)
        refine ⟨_, rfl, _, _, rfl, rfl, _, rfl, ite2 (fun c2 => ?_) (fun c2 => ?_)⟩
        · have c2' : (8 : Int) < (d : Int) := of_decide_eq_true c2
          refine bT rfl (no _ (Same.refl _) ?_)
          rw [hR, show 9 - d = 0 by omega]
          show ((okW W0 && false) && _) = false
          rw [Bool.and_false, Bool.false_and]
        have c2' : ¬ (8 : Int) < (d : Int) := of_decide_eq_false (Bool.eq_false_iff.mpr c2)
        rw [isT_open (by omega)] at hR
        refine ⟨_, rfl, x, pt, n, rfl, hx1, hptW, fun H2 s2 => ⟨_, rfl, ?_⟩⟩
        cases ef : form pt with
        | false =>
          refine bT rfl (no H2 s2 ?_)
          rw [hR, ef]
          show ((okW W0 && false) && _) = false
          rw [Bool.and_false, Bool.false_and]
        | true =>
          refine bF rfl ?_
          obtain ⟨k, xs, rfl⟩ := form_tup ef
          rw [ef, Bool.true_and] at hR
          obtain ⟨n', rfl⟩ : ∃ n', n = n' + 1 := by
            cases n with
            | zero => exact hptW.elim
            | succ m => exact ⟨m, rfl⟩
          have hkW := hptW.kids
          have hD2 := s2 _ _ hD1
          have sd : Same (dl H' [D]) (dl H2 [D]) := by rw [← hdl]; exact dl_mono s2
          have hx2 := dp_mono sd hx
          refine ⟨_, rfl, .inl ⟨rfl, _, SqL.of hD2⟩, _, rfl, [D], one_list hD2, x, k, xs, rfl, hx2, fun p2 ys H3 s3 hL hall fr => ⟨p2, rfl, ⟨_, Same.seqT (bk_le fr) hL⟩, fun D2 hD2n => ?_⟩⟩
          have hkl := dpa_len' hall
          have hall3 : DpAll K (dl (bk H3 H2 [D]) [D]) ys ((kids (.tup k xs)).map toT) := by rw [dl_bk fr]; exact dpa_mono s3 hall
          have nD2 : D2 ≠ D := fun z => by
            rw [z, bk_at List.mem_cons_self, hD2] at hD2n
            cases hD2n
          refine lc_dat (walk_tup (xs := ys)) [D] hD2n (fun i y G => ∃ c, (kids (.tup k xs))[i]? = some c ∧ Dp K G y (itD (c, d + 1))) (fun i y G G' sg ⟨c, h1, h2⟩ => ⟨c, h1, dp_mono sg h2⟩) (fun G sg => Same.seqT ((bk_le fr).trans sg) hL) (by rw [hkl]; omega) (fun i y H4 H5 Qe Z hi s4 sd4 hDl hq hy => ?_) (fun H4 us s4 hul hD4 hus => ?_)
          · obtain ⟨rfl, hyi⟩ := hy
            have hci := List.getElem?_eq_getElem (show i < (kids (.tup k xs)).length by omega)
            have hyd := dp_mono sd4 (dpa_get' hall3 hyi hci)
            obtain ⟨xd, hxd⟩ := hDl
            have hDD : H5 D = some (.lst ws0) := s4 D _ (by rw [bk_at List.mem_cons_self]; exact hD2)
            have trD : Tr H5 (D2 :: [D]) := fun a ha => by
              rcases List.mem_cons.mp ha with rfl | ha
              · exact ⟨_, hxd⟩
              · rw [List.mem_singleton.mp ha]
                exact ⟨_, hDD⟩
            refine ⟨rfl, yes ?_⟩
            refine ⟨_, rfl, _, rfl, _, _, rfl, rfl, by show 2 ≤ sizeLine; decide, fun t2 ht2 => hq _ _ (same_new ht2) ⟨_, hci, ?_⟩⟩
            exact .tup (SqT.of (dl_upd_at trD ht2)) (.cons (dp_mono (dl_same_new trD ht2) hyd) (.cons (.int _) .nil))
          · have hDD : H4 D = some (.lst ws0) := s4 D _ (by rw [bk_at List.mem_cons_self]; exact hD2)
            have hul2 : us.length = (kids (.tup k xs)).length := by omega
            have hlw0 := dpa_len' hws0
            refine ⟨D, D2, ws0, us, rfl, rfl, hDD, hD4, szl (by omega), ?_⟩
            have sd4 : Same (dl H' [D]) (dl H4 [D]) := sd.trans (s3.trans (by rw [← dl_bk (H := H2) fr]; exact dl_mono s4))
            refine ⟨cntW (W0 ++ (kids (.tup k xs)).map fun c => (c, d + 1)), ?_, W0 ++ (kids (.tup k xs)).map (fun c => (c, d + 1)), ws0 ++ us, sz + 1, _, _, rfl, ?_, upd_same, ?_, ?_, by omega, ?_, ?_, rfl⟩
            · have := cntW_kids (.tup k xs) d
              rw [cntW_app]
              omega
            · rw [dl_upd List.mem_cons_self]
              exact sm.trans sd4
            · rw [dl_upd List.mem_cons_self, List.map_append, List.map_map]
              refine dpa_app (dpa_mono sd4 hws0) (dpa_of (by rw [List.length_map]; exact hul2) fun i y e hy he => ?_)
              obtain ⟨c, hc1, hc2⟩ := hus i y hy
              rw [List.getElem?_map, hc1] at he
              cases he
              exact dp_mono (dl_sub fun a ha => List.mem_cons_of_mem _ ha) hc2
            · intro p hp
              rcases List.mem_append.mp hp with hp | hp
              · exact hWT p (List.mem_append_left _ hp)
              · obtain ⟨c, hc, rfl⟩ := List.mem_map.mp hp
                exact (hkW.2 c hc).up
            · have := cntW_kids (.tup k xs) d
              rw [hR, okW_app, okW_kids, cntW_app]
              congr 1
              exact dec_p (by omega)
            · rw [List.length_append, List.length_map]
              have := hkW.1
              omega
end
end Hr

set_option Elab.async false
set_option linter.all false
set_option maxRecDepth 100000
set_option maxHeartbeats 4000000
namespace Hr
open PySem PySem.Spec PyProof.Rows L2
section
variable {P : Program} {w : World} {K : PySem.W.Frag} {mg : Str → Option Value} {base : Heap}
def sp_istree (K : PySem.W.Frag) (r : Nat) : Sp := fun vs H Q _ => ∃ (v : V) (t : Th) (n m : Nat), vs = [v, .int m] ∧ m < r ∧ Dp K H v (toT t) ∧ WT n t ∧ n ≤ 50 ∧ ∀ H', Same H H' → Q (.bl (isT m t)) H'
theorem unit_shaped : SeqAt.shaped (.tuple []) = true := rfl
theorem ok__law_is_tree_step {f : Addr} {fd : FuncData} {r : Nat} (T : Txt K mg) (F : Fun K "_law_is_tree" "_law_is_tree" s__law_is_tree f fd) (G__law_is_tree : FnOk P w K mg base CX0 (r + 2) f fd ["_law_thing_z", "_law_room"] (sp_istree K r)) (b__law_is_tree : Binds K fd ["_law_thing_z", "_law_room"] []) (g__law_is_tree : mg "_law_is_tree" = some (.ref f)) : FnOk P w K mg base CX0 (r + 3) f fd ["_law_thing_z", "_law_room"] (sp_istree K (r + 1)) := by
  obtain ⟨f__law_is_name, fd__law_is_name, F__law_is_name, b__law_is_name, g__law_is_name⟩ := T.h__law_is_name
  obtain ⟨f__law_is_value, fd__law_is_value, F__law_is_value, b__law_is_value, g__law_is_value⟩ := T.h__law_is_value
  have F__law_is_tree := F
  have G__law_is_name := ok__law_is_name (P := P) (w := w) (base := base) T F__law_is_name
  have G__law_is_value := ok__law_is_value (P := P) (w := w) (base := base) T F__law_is_value
  refine F.ok sc__law_is_tree (fun vs H Q E h => ?_) (fun cdv A outer s H vs Q E hr h => ?_)
  · obtain ⟨v, t, n, m, rfl, _⟩ := h
    rfl
  obtain ⟨v, t, n, m, rfl, hm, hv, hw, hn, q⟩ := h
  have hr__law_is_name : Room 1 _ := hr.mono (by omega)
  have hr__law_is_value : Room 1 _ := hr.mono (by omega)
  have hr__law_is_tree : Room (r + 2) _ := hr
  refine ⟨_, (pss_cons (ps_if (PW.pt (pw_or (pt_not (pt_val (pe_callB (call_isiK' (K := K)) (by rfl) T.m_isinstance (by decide +kernel) (pa_cons (pv 0) (pa_cons (pe_bltn (v := .ty "tuple") (by rfl) T.m_tuple (by decide +kernel) rfl) pa_nil))))) (pw_or (pt_cmpR (op_eqDK (K := K) hr.units) (pv 0) (pe_tup pa_nil) (nomark _)) (pw_or1 (pt_cmpR op_eq (pv 1) pe_int (nomark _)))))) (pss_one (ps_ret pe_bl)) pss_nil)
      (pss_cons (ps_set (i := 2) sc__law_is_tree.nd rfl (.inl rfl) (pe_slice (sl_tupK (K := K)) (pv 0) (po_some pe_int) po_none))
      (pss_cons (ps_if (pt_cmpR op_eq (pe_ix (ix_tupK (K := K)) (pv 0) pe_int (fun _ _ => rfl)) pe_str (nomark _)) (pss_one (ps_ret (pe_cmpR (op_eqDK (K := K) hr.units) (pv 2) (pe_tup pa_nil) (nomark _)))) pss_nil)
      (pss_cons (ps_if (pt_cmpR op_eq (pe_ix (ix_tupK (K := K)) (pv 0) pe_int (fun _ _ => rfl)) pe_str (nomark _)) (pss_cons (ps_if (PW.pt (pw_or (pt_cmpR op_ne (pe_callB (call_len_seqK (K := K)) (by rfl) T.m_len PySem.boot_len (pa_cons (pv 2) pa_nil)) pe_int (nomark _)) (pw_or (pt_not (pt_val (pe_callB (call_isiK' (K := K)) (by rfl) T.m_isinstance (by decide +kernel) (pa_cons (pe_ix (ix_tupK (K := K)) (pv 2) pe_int (fun _ _ => rfl)) (pa_cons (pe_bltn (v := .ty "str") (by rfl) T.m_str (by decide +kernel) rfl) pa_nil))))) (pw_or1 (pt_not (pt_val (pe_callB (call_isiK' (K := K)) (by rfl) T.m_isinstance (by decide +kernel) (pa_cons (pe_ix (ix_tupK (K := K)) (pv 2) pe_int (fun _ _ => rfl)) (pa_cons (pe_bltn (v := .ty "str") (by rfl) T.m_str (by decide +kernel) rfl) pa_nil))))))))) (pss_one (ps_ret pe_bl)) pss_nil)
      (pss_one (ps_ret (pe_and (pe_call G__law_is_name hr__law_is_name (by rfl) g__law_is_name F__law_is_name.kp b__law_is_name .nil pass0 (pa_cons (pe_ix (ix_tupK (K := K)) (pv 2) pe_int (fun _ _ => rfl)) pa_nil)) (pe_and (pe_cmpR op_ne (pe_ix (ix_tupK (K := K)) (pv 2) pe_int (fun _ _ => rfl)) pe_str (nomark _)) (pe_one (pe_call G__law_is_value hr__law_is_value (by rfl) g__law_is_value F__law_is_value.kp b__law_is_value .nil pass0 (pa_cons (pe_ix (ix_tupK (K := K)) (pv 2) pe_int (fun _ _ => rfl)) pa_nil)))))))) pss_nil)
      (pss_cons (ps_if (pt_cmpR op_eq (pe_ix (ix_tupK (K := K)) (pv 0) pe_int (fun _ _ => rfl)) pe_str (nomark _)) (pss_one (ps_ret (pe_and (pe_cmpR op_eq (pe_callB (call_len_seqK (K := K)) (by rfl) T.m_len PySem.boot_len (pa_cons (pv 2) pa_nil)) pe_int (nomark _)) (pe_one (pe_call G__law_is_tree hr__law_is_tree (by rfl) g__law_is_tree F__law_is_tree.kp b__law_is_tree .nil pass0 (pa_cons (pe_ix (ix_tupK (K := K)) (pv 2) pe_int (fun _ _ => rfl)) (pa_cons (pe_op op_sub (pv 1) pe_int) pa_nil))))))) pss_nil)
      (pss_cons (ps_if (PW.pt (pw_or (PW.pt (pw_and (pt_cmpR op_ne (pe_ix (ix_tupK (K := K)) (pv 0) pe_int (fun _ _ => rfl)) pe_str (nomark _)) (pw_and1 (pt_cmpR op_ne (pe_ix (ix_tupK (K := K)) (pv 0) pe_int (fun _ _ => rfl)) pe_str (nomark _))))) (pw_or1 (pt_cmpR op_lt (pe_callB (call_len_seqK (K := K)) (by rfl) T.m_len PySem.boot_len (pa_cons (pv 2) pa_nil)) pe_int (nomark _))))) (pss_one (ps_ret pe_bl)) pss_nil)
      (pss_one (ps_ret (pe_callB (cr_allK (K := K) rfl) (by rfl) T.m_all (by decide +kernel) (pa_cons (pe_lc (own := [("_law_part", 3)]) (g := gName 3) (by rfl) sc__law_is_tree.nd (pi_tupK (K := K) (pv 2)) (blkOk_by (own := [("_law_part", 3)]) (N := N__law_is_tree) (sc := defScope s__law_is_tree) (by decide +kernel)) (fun _ _ _ _ _ => pg_name (i := 3) sc__law_is_tree.nd rfl (.inl rfl)) (fun _ _ _ _ _ => pts_nil) (fun _ _ _ _ _ => (pe_call G__law_is_tree hr__law_is_tree (by rfl) g__law_is_tree F__law_is_tree.kp b__law_is_tree .nil pass0 (pa_cons (pv 3) (pa_cons (pe_op op_sub (pv 1) pe_int) pa_nil))))) pa_nil)))))))))), ?_⟩
  have hvv := hv
  have q0 := q H (Same.refl _)
  have shp : SeqAt.shaped (toT t) = true := deep_shaped hw.deep (by omega)
  rcases thing_open hv with ⟨s1, rfl, rfl⟩ | ⟨a, rfl, rfl, hs⟩ | ⟨a, k, xs, ys, rfl, rfl, hs, hall⟩
  · have k1 : kitB (tyN (toT (.str s1))) "tuple" = some false := by unfold toT; exact kit_str_tuple
    refine ⟨_, rfl, _, _, _, _, _, rfl, .ty _, ty_of hvv, kit_ty k1, _, rfl, bT rfl ?_⟩
    have e : isT m (.str s1) = false := by cases m <;> rfl
    rw [e] at q0
    exact bT rfl q0
  · have k1 : kitB (tyN (toT .nil)) "tuple" = some true := by unfold toT; exact kit_tuple_tuple
    refine ⟨_, rfl, _, _, _, _, _, rfl, .ty _, ty_of hvv, kit_ty k1, _, rfl, bF rfl ?_⟩
    refine ⟨_, rfl, Nat.zero_le _, fun p hp => ⟨toT .nil, .tuple [], dp_mono (same_new hp) hvv, .tup (SqT.of upd_same) .nil, shp, unit_shaped, _, rfl, bT eqv_nilT ?_⟩⟩
    have e : isT m .nil = false := by cases m <;> rfl
    have q1 := q _ (same_new (o := .tup []) hp)
    rw [e] at q1
    exact bT rfl q1
  have hl := dpa_len' hall
  have k1 : kitB (tyN (toT (.tup k xs))) "tuple" = some true := by unfold toT; exact kit_tuple_tuple
  refine ⟨_, rfl, _, _, _, _, _, rfl, .ty _, ty_of hvv, kit_ty k1, _, rfl, bF rfl ?_⟩
  refine ⟨_, rfl, Nat.zero_le _, fun p hp => ?_⟩
  have sp := same_new (o := .tup []) hp
  refine ⟨toT (.tup k xs), .tuple [], dp_mono sp hvv, .tup (SqT.of upd_same) .nil, shp, unit_shaped, _, rfl, bF (eqv_tupT k xs) ?_⟩
  refine ⟨_, rfl, rfl, _, rfl, ite2 (fun c => ?_) (fun c => ?_)⟩
  · have em : m = 0 := by
      have := V.int.inj (of_decide_eq_true c)
      omega
    subst em
    exact q _ sp
  have hm1 : 1 ≤ m := by
    have : ¬ V.int (m : Int) = V.int 0 := of_decide_eq_false (Bool.eq_false_iff.mpr c)
    rcases Nat.eq_zero_or_pos m with e | e
    · rw [e] at this; exact absurd rfl this
    · exact e
  obtain ⟨m, rfl⟩ : ∃ m', m = m' + 1 := ⟨m - 1, by omega⟩
  have fe : isT (m + 1) (.tup k xs) = ((if k = "any" then decide (xs.length = 0) else if k = "test" then testOk xs else if k = "not" then decide (xs.length = 1) else (decide (k = "and") || decide (k = "or")) && decide (2 ≤ xs.length)) && (if leafW k = true then [] else xs).all (isT m)) := rfl
  -- rest
  refine ⟨_, rfl, 1, rfl, a, _, rfl, Same.seqT sp hs, fun z => absurd z (cut_tail_ne _ _), fun _ t2 ht2 => ?_⟩
  rw [cut_tail]
  have s2 := sp.trans (same_new (o := .tup ys) ht2)
  have hs2 := Same.seqT s2 hs
  have hr2 : SqT K (upd (upd H p (.tup [])) t2 (.tup ys)) t2 ys := SqT.of upd_same
  have q2 := q _ s2
  obtain ⟨n, rfl⟩ : ∃ n', n = n' + 1 := by
    cases n with
    | zero => exact hw.elim
    | succ n => exact ⟨n, rfl⟩
  have hxw := hw.2.2
  have shr : SeqAt.shaped (.tuple (xs.map toT)) = true := deep_shaped (n := n + 2) (deep_tuple_of (by rw [List.length_map]; have := hw.2.1; omega) fun d hd => by
    obtain ⟨x, hx, rfl⟩ := List.mem_map.mp hd
    exact (hxw x hx).deep) (by omega)
  refine ⟨_, rfl, a, _, 0, .str k, rfl, rfl, hs2, at0 _ _, rfl, _, rfl, ite2 (fun c1 => ?_) (fun c1 => ?_)⟩
  · have ek : k = "any" := V.str.inj (of_decide_eq_true c1)
    subst ek
    refine ⟨_, rfl, Nat.zero_le _, fun p3 hp3 => ?_⟩
    have s3 := same_new (o := .tup []) hp3
    refine ⟨.tuple (xs.map toT), .tuple [], .tup (Same.seqT s3 hr2) (dpa_mono (s2.trans s3) hall), .tup (SqT.of upd_same) .nil, shr, unit_shaped, ?_⟩
    have q3 := q _ (s2.trans s3)
    have e : isT (m + 1) (.tup "any" xs) = (xs.map toT).isEmpty := by
      rw [fe, if_pos rfl, if_pos (show leafW "any" = true by decide)]
      cases xs <;> rfl
    rw [e] at q3
    rw [eqv_rest]
    exact q3
  have e1 : k ≠ "any" := fun e => c1 (by rw [e]; exact decide_eq_true rfl)
  rw [if_neg e1] at fe
  refine ⟨_, rfl, a, _, 0, .str k, rfl, rfl, hs2, at0 _ _, rfl, _, rfl, ite2 (fun c2 => ?_) (fun c2 => ?_)⟩
  · have ek : k = "test" := V.str.inj (of_decide_eq_true c2)
    subst ek
    have e : isT (m + 1) (.tup "test" xs) = testOk xs := by
      rw [fe, if_pos rfl, if_pos (show leafW "test" = true by decide)]
      exact Bool.and_true _
    rw [e] at q2
    refine ⟨_, rfl, t2, _, rfl, .inr hr2, rfl, _, rfl, ?_⟩
    by_cases h2 : xs.length = 2
    · obtain ⟨t1, u1, rfl⟩ := two_of h2
      cases hall with
      | @cons y1 _ _ _ h1 hr1 =>
        cases hr1 with
        | @cons y2 _ _ _ hy2 hre =>
          cases hre
          refine bF (by rfl) ?_
          have d1 := dp_mono s2 h1
          have d2 := dp_mono s2 hy2
          have w1 := hxw t1 (by simp)
          have w2 := hxw u1 (by simp)
          rcases th_ty w1 with ⟨s1, rfl⟩ | ex1
          · have k2 : kitB (tyN (toT (.str s1))) "str" = some true := by unfold toT; exact kit_str_str
            refine ⟨_, rfl, t2, _, 0, y1, rfl, rfl, hr2, at_i (i := 0) rfl, _, _, _, _, _, rfl, .ty _, ty_of d1, kit_ty k2, _, rfl, bF rfl ?_⟩
            rcases th_ty w2 with ⟨s2', rfl⟩ | ex2
            · have k3 : kitB (tyN (toT (.str s2'))) "str" = some true := by unfold toT; exact kit_str_str
              refine ⟨_, rfl, t2, _, 1, y2, rfl, rfl, hr2, at_i (i := 1) rfl, _, _, _, _, _, rfl, .ty _, ty_of d2, kit_ty k3, _, rfl, bF rfl ?_⟩
              unfold toT at d1 d2
              cases d1
              cases d2
              refine ⟨_, rfl, t2, _, 0, .str s1, rfl, rfl, hr2, at_i (i := 0) rfl, s1, rfl, by have := w1.str.2; omega, fun H3 r3 => ⟨_, rfl, ?_⟩⟩
              have q3 := q H3 (s2.trans r3)
              rw [e] at q3
              have te : testOk [.str s1, .str s2'] = ((consists s1 nameC && !decide (s1 = "any")) && consists s2' valueC) := rfl
              rw [te] at q3 q2
              cases ec : consists s1 nameC with
              | false =>
                rw [ec] at q3
                exact iteF q3
              | true =>
                rw [ec, Bool.true_and] at q3
                refine iteT ⟨_, rfl, t2, _, 0, .str s1, rfl, rfl, Same.seqT r3 hr2, at_i (i := 0) rfl, rfl, _, rfl, ?_⟩
                have ed : decide (V.str s1 = V.str "any") = decide (s1 = "any") := dec_p ⟨fun h => V.str.inj h, fun h => by rw [h]⟩
                rw [ed]
                cases ea : decide (s1 = "any") with
                | true =>
                  rw [ea] at q3
                  exact bF rfl q3
                | false =>
                  rw [ea] at q3
                  refine bT rfl ⟨_, rfl, t2, _, 1, .str s2', rfl, rfl, Same.seqT r3 hr2, at_i (i := 1) rfl, s2', rfl, by have := w2.str.2; omega, fun H4 r4 => ?_⟩
                  have q4 := q H4 ((s2.trans r3).trans r4)
                  rw [e, te, ec, ea] at q4
                  exact q4
            · refine ⟨_, rfl, t2, _, 1, y2, rfl, rfl, hr2, at_i (i := 1) rfl, _, _, _, _, false, rfl, .ty _, ty_of d2, kit_ty (by rw [ex2]; exact kit_tuple_str), _, rfl, bT rfl ?_⟩
              rw [testOk_no2 ex2] at q2
              exact q2
          · refine ⟨_, rfl, t2, _, 0, y1, rfl, rfl, hr2, at_i (i := 0) rfl, _, _, _, _, false, rfl, .ty _, ty_of d1, kit_ty (by rw [ex1]; exact kit_tuple_str), _, rfl, bT rfl ?_⟩
            rw [testOk_no1 ex1] at q2
            exact bT rfl q2
    · refine bT (by rw [hl]; show (!decide (V.int (xs.length : Int) = V.int 2)) = true; rw [decide_eq_false fun z => h2 (by have := V.int.inj z; omega)]; rfl) ?_
      rw [testOk_len h2] at q2
      exact bT rfl q2
  have e2 : k ≠ "test" := fun e => c2 (by rw [e]; exact decide_eq_true rfl)
  rw [if_neg e2, if_neg (show ¬ leafW k = true by rw [leafW_no e1 e2]; decide)] at fe
  refine ⟨_, rfl, a, _, 0, .str k, rfl, rfl, hs2, at0 _ _, rfl, _, rfl, ite2 (fun c3 => ?_) (fun c3 => ?_)⟩
  · have ek : k = "not" := V.str.inj (of_decide_eq_true c3)
    rw [if_pos ek] at fe
    refine ⟨_, rfl, t2, _, rfl, .inr hr2, rfl, _, rfl, ?_⟩
    have ed : decide (V.int (ys.length : Int) = V.int 1) = decide (xs.length = 1) := dec_v (by omega)
    rw [ed]
    rw [fe] at q2
    refine ite2 (fun c4 => ?_) (fun c4 => ?_)
    · have h1 : xs.length = 1 := of_decide_eq_true c4
      obtain ⟨t1, rfl⟩ := one_of h1
      cases hall with
      | @cons y1 _ _ _ hy1 hre =>
        cases hre
        refine ⟨_, rfl, t2, _, 0, y1, rfl, rfl, hr2, at_i (i := 0) rfl, _, rfl, _, _, rfl, rfl, y1, t1, n, m, ?_, by omega, dp_mono s2 hy1, hxw t1 (by simp), by omega, fun H3 r3 => ?_⟩
        · show [y1, V.int (((m + 1 : Nat) : Int) - 1)] = _
          rw [show (((m + 1 : Nat) : Int) - 1) = (m : Int) by omega]
        · have q3 := q H3 (s2.trans r3)
          rw [fe] at q3
          have eb : (decide ([t1].length = 1) && [t1].all (isT m)) = isT m t1 := by
            show (true && (isT m t1 && true)) = _
            rw [Bool.true_and, Bool.and_true]
          rw [eb] at q3
          exact q3
    · rw [Bool.eq_false_iff.mpr c4, Bool.false_and] at q2
      exact q2
  have e3 : k ≠ "not" := fun e => c3 (by rw [e]; exact decide_eq_true rfl)
  rw [if_neg e3] at fe
  -- and, or
  have dk : ∀ z : Str, decide (V.str k = V.str z) = decide (k = z) := fun z => dec_p ⟨fun h => V.str.inj h, fun h => by rw [h]⟩
  have last : (decide (k = "and") || decide (k = "or")) = true → 2 ≤ xs.length → (tCB (rAll K) (tCons (tLc (iTup K (tVar 2)) (gName 3) tYes (tCall (sp_istree K r) [] E0 (tCons (tVar 3) (tCons (tOp (rI0 fun i j => .int (i - j)) (tVar 1) (tC (.int 1))) tNil))) [3]) tNil)) [some (.ref a), some (.int ((m + 1 : Nat) : Int)), some (.ref t2), none] (upd (upd H p (.tup [])) t2 (.tup ys)) Q := by
    intro hk h2
    refine ⟨_, rfl, t2, rfl, ⟨_, hr2⟩, fun D hD => ?_⟩
    refine lc_each xs hl walk_tup hD (fun x => .bl (isT m x)) (fun H' s' => Same.seqT s' hr2) (by have := hw.2.1; omega) (fun i y x H3 Qe Z hy hx sm hq => ?_) (fun H3 sm hD3 => ?_)
    · refine ⟨rfl, yes ⟨_, rfl, _, rfl, _, _, rfl, rfl, y, x, n, m, ?_, by omega, dp_mono (s2.trans sm) (dpa_get' hall hy hx), hxw x (List.mem_of_getElem? hx), by omega, fun H4 s4 => hq H4 s4⟩⟩
      show [y, V.int (((m + 1 : Nat) : Int) - 1)] = _
      rw [show (((m + 1 : Nat) : Int) - 1) = (m : Int) by omega]
    · refine ⟨D, xs.map (isT m), rfl, SqL.of (by rw [hD3, List.map_map]; rfl), ?_⟩
      have q3 := q H3 (s2.trans sm)
      rw [fe, hk, decide_eq_true h2, Bool.true_and, Bool.true_and] at q3
      rw [List.all_map]
      exact q3
  have short : ¬ 2 ≤ xs.length → isT (m + 1) (.tup k xs) = false := fun h => by
    rw [fe, decide_eq_false h, Bool.and_false, Bool.false_and]
  have ne1 : (!decide (V.str k = V.str "and")) = !decide (k = "and") := by rw [dk]
  have ne2 : (!decide (V.str k = V.str "or")) = !decide (k = "or") := by rw [dk]
  have fin : (decide (k = "and") || decide (k = "or")) = true → ∀ R : Prop, (2 ≤ xs.length → R) → (¬ 2 ≤ xs.length → R) → R := fun _ R h1 h2 => by
    by_cases h : 2 ≤ xs.length
    · exact h1 h
    · exact h2 h
  refine ⟨_, rfl, a, _, 0, .str k, rfl, rfl, hs2, at0 _ _, rfl, _, rfl, ?_⟩
  by_cases ka : k = "and"
  · have hk : (decide (k = "and") || decide (k = "or")) = true := by rw [decide_eq_true ka]; rfl
    refine bF (by rw [ne1, decide_eq_true ka]; rfl) (bF rfl ?_)
    refine ⟨_, rfl, t2, _, rfl, .inr hr2, _, _, rfl, rfl, _, rfl, ite2 (fun c5 => ?_) (fun c5 => ?_)⟩
    · have h5 : (ys.length : Int) < 2 := of_decide_eq_true c5
      rw [short (by omega)] at q2
      exact q2
    · have h5 : ¬ (ys.length : Int) < 2 := of_decide_eq_false (Bool.eq_false_iff.mpr c5)
      exact last hk (by omega)
  · refine bT (by rw [ne1, decide_eq_false ka]; rfl) ?_
    refine ⟨_, rfl, a, _, 0, .str k, rfl, rfl, hs2, at0 _ _, rfl, _, rfl, ?_⟩
    by_cases ko : k = "or"
    · have hk : (decide (k = "and") || decide (k = "or")) = true := by rw [decide_eq_true ko, Bool.or_true]
      refine bF (by rw [ne2, decide_eq_true ko]; rfl) ?_
      refine ⟨_, rfl, t2, _, rfl, .inr hr2, _, _, rfl, rfl, _, rfl, ite2 (fun c5 => ?_) (fun c5 => ?_)⟩
      · have h5 : (ys.length : Int) < 2 := of_decide_eq_true c5
        rw [short (by omega)] at q2
        exact q2
      · have h5 : ¬ (ys.length : Int) < 2 := of_decide_eq_false (Bool.eq_false_iff.mpr c5)
        exact last hk (by omega)
    · refine bT (by rw [ne2, decide_eq_false ko]; rfl) ?_
      have e : isT (m + 1) (.tup k xs) = false := by
        rw [fe, decide_eq_false ka, decide_eq_false ko]
        rfl
      rw [e] at q2
      exact bT rfl q2
theorem ok__law_is_tree (T : Txt K mg) {f : Addr} {fd : FuncData} (F : Fun K "_law_is_tree" "_law_is_tree" s__law_is_tree f fd) (b : Binds K fd ["_law_thing_z", "_law_room"] []) (g : mg "_law_is_tree" = some (.ref f)) : ∀ r, FnOk P w K mg base CX0 (r + 2) f fd ["_law_thing_z", "_law_room"] (sp_istree K r)
  | 0 => by
    have no : ∀ vs H Q E, ¬ sp_istree K 0 vs H Q E := fun vs H Q E h => by
      obtain ⟨_, _, _, m, _, h1, _⟩ := h
      omega
    exact ⟨fun vs H Q E h => absurd h (no vs H Q E), fun A outer s H args us vs Q E _ _ _ _ h => absurd h (no vs H Q E)⟩
  | r + 1 => ok__law_is_tree_step T F (ok__law_is_tree T F b g r) b g
end
end Hr

set_option Elab.async false
set_option linter.all false
set_option maxRecDepth 100000
set_option maxHeartbeats 4000000
namespace Hr
open PySem PySem.Spec PyProof.Rows L2
section
variable {P : Program} {w : World} {K : PySem.W.Frag} {mg : Str → Option Value} {base : Heap}
def sp_bent (K : PySem.W.Frag) (n : Nat) : Sp := fun vs H Q _ => ∃ (b l : Addr) (v : V) (k : Str) (xs : List Th) (S : List Addr), vs = [.ref b, v] ∧ Bag H b l ∧ b ∈ S ∧ Tr H S ∧ Dp K (dl H S) v (toT (.tup k xs)) ∧ WT n (.tup k xs) ∧ n ≤ 40 ∧
  ∀ (v' : V) (t' : Th) (H' : Hp), Bx b l H H' → WT (n + 1) t' → isTh t' = true → Dp K (dl H' S) v' (toT t') → Q v' H'
theorem ok__law_bent_tree_step {f : Addr} {fd : FuncData} {n : Nat} (T : Txt K mg) (F : Fun K "_law_bent_tree" "_law_bent_tree" s__law_bent_tree f fd) (G__law_bent_tree : FnOk P w K mg base CX0 (n + 3) f fd ["_law_bag_here", "_law_tree_here"] (sp_bent K n)) (b__law_bent_tree : Binds K fd ["_law_bag_here", "_law_tree_here"] []) (g__law_bent_tree : mg "_law_bent_tree" = some (.ref f)) : FnOk P w K mg base CX0 (n + 4) f fd ["_law_bag_here", "_law_tree_here"] (sp_bent K (n + 1)) := by
  obtain ⟨f__law_of, fd__law_of, F__law_of, b__law_of, g__law_of⟩ := T.h__law_of
  obtain ⟨f__law_pull, fd__law_pull, F__law_pull, b__law_pull, g__law_pull⟩ := T.h__law_pull
  have F__law_bent_tree := F
  have G__law_pull := ok__law_pull (P := P) (w := w) (base := base) T F__law_pull
  have G__law_ofL := ok__law_ofL (P := P) (w := w) (base := base) T F__law_of
  refine F.ok sc__law_bent_tree (fun vs H Q E h => ?_) (fun cdv A outer s H vs Q E hr h => ?_)
  · obtain ⟨b, l, v, k, xs, S, rfl, _⟩ := h
    rfl
  obtain ⟨b, l, v, k, xs, S, rfl, hb, hbS, tr, hv, hw, hn, q⟩ := h
  have hr__law_pull : Room 1 _ := hr.mono (by omega)
  have hr__law_of : Room 2 _ := hr.mono (by omega)
  have hr__law_bent_tree : Room (n + 3) _ := hr
  refine ⟨_, (pss_cons (ps_setLc (i := 2) (own := [("_law_at", 4)]) (g := gName 4) rfl sc__law_bent_tree.nd rfl rfl (sw_true rfl rfl rfl (by decide +kernel)) (pi_range2 (by rfl) T.m_range (pa_cons pe_int (pa_cons (pe_callB (call_len_seqK (K := K)) (by rfl) T.m_len PySem.boot_len (pa_cons (pv 1) pa_nil)) pa_nil))) (blkOk_by (own := [("_law_at", 4)]) (N := N__law_bent_tree) (sc := defScope s__law_bent_tree) (by decide +kernel)) (fun _ _ _ _ _ => pg_name (i := 4) sc__law_bent_tree.nd rfl (.inl rfl)) (fun _ _ _ _ _ => (pts_one (PW.pt (pw_and (pt_val (pe_callB (call_isiK' (K := K)) (by rfl) T.m_isinstance (by decide +kernel) (pa_cons (pe_ix (ix_tupK (K := K)) (pv 1) (pv 4) (fun _ _ => rfl)) (pa_cons (pe_bltn (v := .ty "tuple") (by rfl) T.m_tuple (by decide +kernel) rfl) pa_nil)))) (pw_and1 (pt_cmpR (op_neDK (K := K) hr.units) (pe_ix (ix_tupK (K := K)) (pv 1) (pv 4) (fun _ _ => rfl)) (pe_tup pa_nil) (nomark _))))))) (fun _ _ _ _ _ => (pv 4)))
      (pss_cons (ps_if (PW.pt (pw_and (pt_cmpR (op_neDK (K := K) hr.units) (pv 2) (pe_lst pa_nil) (nomark _)) (pw_and1 (pt_cmpR op_gt (pe_call G__law_pull hr__law_pull (by rfl) g__law_pull F__law_pull.kp b__law_pull .nil pass0 (pa_cons (pv 0) (pa_cons pe_int pa_nil))) pe_int (nomark _))))) (pss_cons (ps_set (i := 4) sc__law_bent_tree.nd rfl (.inl rfl) (pe_call G__law_ofL hr__law_of (by rfl) g__law_of F__law_of.kp b__law_of .nil pass0 (pa_cons (pv 0) (pa_cons (pv 2) pa_nil))))
      (pss_one (ps_ret (pe_op (op_catTK (K := K)) (pe_op (op_catTK (K := K)) (pe_slice (sl_tupK (K := K)) (pv 1) po_none (po_some (pv 4))) (pe_tup (pa_cons (pe_call G__law_bent_tree hr__law_bent_tree (by rfl) g__law_bent_tree F__law_bent_tree.kp b__law_bent_tree .nil pass0 (pa_cons (pv 0) (pa_cons (pe_ix (ix_tupK (K := K)) (pv 1) (pv 4) (fun _ _ => rfl)) pa_nil))) pa_nil))) (pe_slice (sl_tupK (K := K)) (pv 1) (po_some (pe_op op_add (pv 4) pe_int)) po_none))))) pss_nil)
      (pss_cons (ps_set (i := 3) sc__law_bent_tree.nd rfl (.inl rfl) (pe_lst (pa_cons (pe_tup (pa_cons pe_str (pa_cons pe_str pa_nil))) (pa_cons (pe_tup (pa_cons pe_str (pa_cons pe_str pa_nil))) (pa_cons (pe_tup (pa_cons pe_str (pa_cons pe_str (pa_cons pe_str pa_nil)))) (pa_cons (pe_tup (pa_cons pe_str (pa_cons pe_str (pa_cons pe_str pa_nil)))) (pa_cons (pe_tup (pa_cons pe_str (pa_cons pe_str (pa_cons pe_str pa_nil)))) pa_nil)))))))
      (pss_cons (ps_set (i := 3) sc__law_bent_tree.nd rfl (.inl rfl) (pe_op op_cat (pv 3) (pe_lst (pa_cons (pe_tup (pa_cons pe_str pa_nil)) (pa_cons (pe_tup (pa_cons pe_str (pa_cons (pv 1) (pa_cons (pv 1) pa_nil)))) (pa_cons (pe_tup (pa_cons pe_str (pa_cons (pv 1) pa_nil))) (pa_cons (pe_tup (pa_cons pe_str pa_nil)) (pa_cons (pe_tup (pa_cons pe_str (pa_cons (pv 1) (pa_cons (pv 1) pa_nil)))) (pa_cons (pe_tup pa_nil) (pa_cons (pe_tup (pa_cons pe_str (pa_cons (pe_tup (pa_cons pe_str pa_nil)) (pa_cons pe_str pa_nil)))) pa_nil))))))))))
      (pss_cons (ps_set (i := 3) sc__law_bent_tree.nd rfl (.inl rfl) (pe_op op_cat (pv 3) (pe_lst (pa_cons (pe_tup (pa_cons pe_str (pa_cons (pv 1) (pa_cons pe_str pa_nil)))) (pa_cons (pe_tup (pa_cons pe_str (pa_cons pe_str (pa_cons pe_str (pa_cons pe_str pa_nil))))) (pa_cons (pe_tup (pa_cons pe_str (pa_cons pe_str (pa_cons pe_str pa_nil)))) (pa_cons (pe_tup (pa_cons pe_str pa_nil)) (pa_cons (pe_tup (pa_cons pe_str (pa_cons (pv 1) (pa_cons (pv 1) (pa_cons (pv 1) pa_nil))))) pa_nil))))))))
      (pss_one (ps_ret (pe_call G__law_ofL hr__law_of (by rfl) g__law_of F__law_of.kp b__law_of .nil pass0 (pa_cons (pv 0) (pa_cons (pv 3) pa_nil)))))))))), ?_⟩
  rcases thing_open hv with ⟨_, e, _⟩ | ⟨_, e, _⟩ | ⟨a, k', xs', ys, e, rfl, hsS, hallS⟩
  · cases e
  · cases e
  cases e
  have hs := Same.seqT dl_le hsS
  have hall := dpa_mono dl_le hallS
  have hl := dpa_len' hall
  have hxl := hw.2.1
  -- places
  refine ⟨_, rfl, a, _, rfl, .inr hs, 1, _, rfl, ⟨by omega, by omega, by rw [List.length_cons]; omega, by rw [List.length_cons]; omega⟩, fun D hD => ?_⟩
  have en : (((V.str k :: ys).length : Int) - 1).toNat = xs.length := by rw [List.length_cons]; omega
  rw [en]
  refine lc_filt (walk_rangeL (lo := 1) (n := xs.length)) hD (fun v => v) (fun v => match v with | .int z => isTup (xs.getD (z.toNat - 1) .nil) | _ => false) (fun _ _ => trivial) (by rw [List.length_map, List.length_range]; omega) (fun i x H1 R Z hx sm hR hZ => ?_) (fun H1 sm hL => ?_)
  · have hi : i < xs.length := by
      have := (List.getElem?_eq_some_iff.mp hx).1
      rwa [List.length_map, List.length_range] at this
    rw [List.getElem?_map, List.getElem?_range hi] at hx
    cases hx
    have hxi := List.getElem?_eq_getElem hi
    have hyi := List.getElem?_eq_getElem (show i < ys.length by omega)
    have hd := dp_mono sm (dpa_get' hall hyi hxi)
    have hwi := hw.2.2 _ (List.mem_of_getElem? hxi)
    have ep : xs.getD ((1 + (i : Int)).toNat - 1) .nil = xs[i] := by
      rw [show (1 + (i : Int)).toNat - 1 = i by omega, List.getD_eq_getElem?_getD, hxi]
      rfl
    have eat : atI (V.str k :: ys) (1 + (i : Int)) = some ys[i] := by
      have := at_i (xs := V.str k :: ys) (i := i + 1) (x := ys[i]) (by simpa using hyi)
      rwa [show ((i + 1 : Nat) : Int) = 1 + (i : Int) by omega] at this
    have hR' : isTup xs[i] = true → ∀ H4, Same H1 H4 → R (.int (1 + (i : Nat))) H4 := fun e => hR (by show isTup (xs.getD ((1 + (i : Int)).toNat - 1) .nil) = true; rw [ep]; exact e)
    have hZ' : isTup xs[i] = false → ∀ H4, Same H1 H4 → Z H4 := fun e => hZ (by show isTup (xs.getD ((1 + (i : Int)).toNat - 1) .nil) = false; rw [ep]; exact e)
    generalize xs[i] = xi at hd hwi hR' hZ'
    generalize ys[i] = yi at hd eat
    have hs1 := Same.seqT sm hs
    refine ⟨rfl, ?_⟩
    rcases th_ty hwi with ⟨s1, rfl⟩ | ex
    · have k2 : kitB (tyN (toT (.str s1))) "tuple" = some false := by unfold toT; exact kit_str_tuple
      exact ⟨_, rfl, _, rfl, a, _, _, yi, rfl, rfl, hs1, eat, _, _, _, _, _, rfl, .ty _, ty_of hd, kit_ty k2, _, rfl, bF rfl (bF rfl (hZ' rfl _ (Same.refl _)))⟩
    · refine ⟨_, rfl, _, rfl, a, _, _, yi, rfl, rfl, hs1, eat, _, _, _, _, true, rfl, .ty _, ty_of hd, kit_ty (by rw [ex]; exact kit_tuple_tuple), _, rfl, bT rfl ?_⟩
      refine ⟨_, rfl, _, rfl, a, _, _, yi, rfl, rfl, hs1, eat, Nat.zero_le _, fun p hp => ?_⟩
      have sp := same_new (o := .tup []) hp
      refine ⟨toT xi, .tuple [], dp_mono sp hd, .tup (SqT.of upd_same) .nil, deep_shaped hwi.deep (by omega), unit_shaped, _, rfl, ?_⟩
      cases xi with
      | str s =>
        have ex' : ("str" : String) = "tuple" := by unfold toT at ex; exact ex
        exact absurd ex' (by decide)
      | nil =>
        rw [eqv_nilT]
        exact bF rfl (hZ' rfl _ sp)
      | tup k2 x2 =>
        rw [eqv_tupT]
        exact bT rfl ⟨_, rfl, hR' rfl _ sp⟩
  obtain ⟨zs, ez, hzl, hz⟩ := places_of (n := xs.length) (fun v => match v with | .int z => isTup (xs.getD (z.toNat - 1) .nil) | _ => false)
  rw [ez] at hL
  have bx1 := Bx.ofSame hb sm
  have hDn : D ≠ b := hb.ne_new hD
  dsimp only [gName]
  refine seqI (fun σ' H' => ∃ x4, σ' = [some (.ref b), some (.ref a), some (.ref D), none, x4] ∧ Bx b l H H') ?_ ?_
  rotate_left
  · intro N hN
    refine ⟨_, rfl, Nat.zero_le _, fun e he => ?_⟩
    have se := same_new (o := .lst []) he
    refine ⟨.list (zs.map PyData.int), .list [], .lst (SqL.of (se _ _ hL)) (dpa_ints zs), .lst (SqL.of upd_same) .nil, deep_shaped (ints_deep (n := 0) (by omega)) (by decide), rfl, _, rfl, ?_⟩
    rw [eqv_nil]
    have bx2 := bx1.trans (Bx.ofSame bx1.bag se)
    refine ite2 (fun c => ?_) (fun c => ?_)
    · refine ⟨_, rfl, b, l, 3, rfl, bx2.bag, by decide, by decide, fun d H2 d0 d1 bx3 => ⟨_, _, rfl, rfl, _, rfl, ite2 (fun c2 => ?_) (fun c2 => ?_)⟩⟩
      · have hD2 : H2 D = some (.lst (zs.map V.int)) := bx3.keep D _ hDn (se _ _ hL)
        have hz1 : 1 ≤ zs.length := by
          cases zs with
          | nil => simp at c
          | cons x r => simp
        refine ⟨_, rfl, _, rfl, b, l, D, zs.map V.int, rfl, bx3.bag, fun H' bx' => .inl (SqL.of (bx'.keep D _ hDn hD2)), by rw [List.length_map]; exact hz1, by rw [List.length_map]; omega, fun x H3 hx bx4 => ?_⟩
        obtain ⟨z, hzm, rfl⟩ := List.mem_map.mp hx
        obtain ⟨i, hi, rfl, hpz⟩ := hz z hzm
        have hxi := List.getElem?_eq_getElem hi
        have hyi := List.getElem?_eq_getElem (show i < ys.length by omega)
        have ep : xs.getD ((1 + (i : Int)).toNat - 1) .nil = xs[i] := by
          rw [show (1 + (i : Int)).toNat - 1 = i by omega, List.getD_eq_getElem?_getD, hxi]
          rfl
        have hpz' : isTup xs[i] = true := by rw [← ep]; exact hpz
        have eat : atI (V.str k :: ys) (1 + (i : Int)) = some ys[i] := by
          have := at_i (xs := V.str k :: ys) (i := i + 1) (x := ys[i]) (by simpa using hyi)
          rwa [show ((i + 1 : Nat) : Int) = 1 + (i : Int) by omega] at this
        have bxC := (bx2.trans bx3).trans bx4
        have hsC : SqT K H3 a (.str k :: ys) := Same.seqT ((bxC.same hbS).trans dl_le) hsS
        have lt : (1 + (i : Int)) < ((V.str k :: ys).length : Int) := by rw [List.length_cons]; omega
        have ct := cut_take (x := V.str k :: ys) (i := 1 + (i : Int)) (by omega) lt
        refine ⟨_, rfl, _, rfl, 1 + (i : Int), rfl, a, _, rfl, hsC, fun z => absurd z ct.2, fun _ p1 hp1 => ?_⟩
        rw [ct.1]
        have s1 := same_new (o := .tup ((V.str k :: ys).take (1 + (i : Int)).toNat)) hp1
        have b1 := Bx.new (o := .tup ((V.str k :: ys).take (1 + (i : Int)).toNat)) bxC.bag hp1
        have bxD := bxC.trans b1
        have hdi := dp_mono (bxD.same hbS) (dpa_get' hallS hyi hxi)
        have hwi := hw.2.2 _ (List.mem_of_getElem? hxi)
        obtain ⟨k2, x2, e2⟩ : ∃ k2 x2, xs[i] = .tup k2 x2 := by
          cases hh : xs[i] with
          | str s => rw [hh] at hpz'; cases hpz'
          | nil => rw [hh] at hpz'; cases hpz'
          | tup k2 x2 => exact ⟨k2, x2, rfl⟩
        rw [e2] at hdi hwi
        refine ⟨_, rfl, _, rfl, _, rfl, a, _, _, ys[i], rfl, rfl, Same.seqT s1 hsC, eat, b, l, ys[i], k2, x2, S, rfl, bxD.bag, hbS, tr.bx bxD, hdi, hwi, by omega, fun v' t' H4 bx5 hw' _ hv' => ⟨by show 1 ≤ sizeLine; decide, fun p2 hp2 => ?_⟩⟩
        have bxE := bxD.trans bx5
        have b2 := Bx.new (o := .tup [v']) bxE.bag hp2
        have s2 := same_new (o := .tup [v']) hp2
        have tr4 := tr.bx bxE
        have nS1 : p1 ≠ b := bxC.bag.ne_new hp1
        have hp1' := bx5.keep p1 _ nS1 (upd_same (H := H3) (a := p1) (o := .tup ((V.str k :: ys).take (1 + (i : Int)).toNat)))
        have tk : (V.str k :: ys).take (1 + (i : Int)).toNat = .str k :: ys.take i := by
          rw [show (1 + (i : Int)).toNat = i + 1 by omega]
          rfl
        refine ⟨p1, p2, _, _, rfl, rfl, SqT.of (s2 _ _ hp1'), SqT.of upd_same, by rw [tk]; exact List.cons_ne_nil _ _, szl (by rw [tk, List.length_cons, List.length_take]; show _ + 1 ≤ _; omega), fun e => (nomatch e), fun _ p3 hp3 => ?_⟩
        have s3 := same_new (o := .tup ((V.str k :: ys).take (1 + (i : Int)).toNat ++ [v'])) hp3
        have b3 := Bx.new (o := .tup ((V.str k :: ys).take (1 + (i : Int)).toNat ++ [v'])) (bxE.trans b2).bag hp3
        have bxF := (bxE.trans b2).trans b3
        have hsF : SqT K _ a (.str k :: ys) := Same.seqT ((bxF.same hbS).trans dl_le) hsS
        have cd := cut_drop (x := V.str k :: ys) (i := 1 + (i : Int) + 1) (by omega) (by rw [List.length_cons]; omega)
        refine ⟨_, rfl, _, rfl, _, _, rfl, rfl, _, rfl, a, _, rfl, hsF, fun z => absurd z cd.2, fun _ p4 hp4 => ?_⟩
        rw [cd.1]
        have dr : (V.str k :: ys).drop (1 + (i : Int) + 1).toNat = ys.drop (i + 1) := by
          rw [show (1 + (i : Int) + 1).toNat = i + 1 + 1 by omega]
          rfl
        rw [dr]
        have s4 := same_new (o := .tup (ys.drop (i + 1))) hp4
        have b4 := Bx.new (o := .tup (ys.drop (i + 1))) bxF.bag hp4
        have bxG := bxF.trans b4
        have dat : ∀ H5, Bx b l H5 H5 → Bx b l H H5 → Bx b l H4 H5 → DpAll K (dl H5 S) ((ys.take i ++ [v']) ++ ys.drop (i + 1)) ((xs.take i ++ [t'] ++ xs.drop (i + 1)).map toT) := fun H5 _ hx5 h45 => by
          rw [List.map_append, List.map_append]
          have hA := dpa_mono (hx5.same hbS) hallS
          refine dpa_app (dpa_app (dpa_of (by simp [hl]) fun j y d hy hd => ?_) (.cons (dp_mono (h45.same hbS) hv') .nil)) (dpa_of (by simp [hl]) fun j y d hy hd => ?_)
          · rw [List.map_take] at hd
            by_cases hj : j < i
            · rw [List.getElem?_take_of_lt hj] at hy hd
              obtain ⟨d', h1, h2⟩ := dpa_get hA hy
              rw [h1] at hd
              cases hd
              exact h2
            · rw [List.getElem?_take_eq_none (by omega)] at hy
              cases hy
          · rw [List.map_drop] at hd
            rw [List.getElem?_drop] at hy hd
            obtain ⟨d', h1, h2⟩ := dpa_get hA hy
            rw [h1] at hd
            cases hd
            exact h2
        have wt : WT (n + 2) (.tup k (xs.take i ++ [t'] ++ xs.drop (i + 1))) := by
          refine ⟨hw.1, by rw [List.length_append, List.length_append, List.length_take, List.length_drop, List.length_singleton]; omega, fun x hx => ?_⟩
          rcases List.mem_append.mp hx with hx | hx
          · rcases List.mem_append.mp hx with hx | hx
            · exact (hw.2.2 x (List.mem_of_mem_take hx)).up
            · rw [List.mem_singleton.mp hx]
              exact hw'
          · exact (hw.2.2 x (List.mem_of_mem_drop hx)).up
        have hp3' := s4 _ _ (upd_same (H := upd H4 p2 (.tup [v'])) (a := p3) (o := .tup ((V.str k :: ys).take (1 + (i : Int)).toNat ++ [v'])))
        have trF : Tr _ S := tr.bx bxF
        have trG : Tr _ S := tr.bx bxG
        have p3S : p3 ∉ S := (tr.bx (bxE.trans b2)).fresh hp3
        refine ⟨p3, p4, _, _, rfl, rfl, SqT.of hp3', SqT.of upd_same, by rw [tk]; exact List.cons_ne_nil _ _, szl (by rw [List.length_append, tk, List.length_cons, List.length_take, List.length_drop, List.length_singleton]; omega), fun ed => ?_, fun _ p5 hp5 => ?_⟩
        · refine q _ (.tup k (xs.take i ++ [t'] ++ xs.drop (i + 1))) _ bxG wt rfl ?_
          have dd := dat _ (Bx.refl bxG.bag) bxG ((b2.trans b3).trans b4)
          unfold toT
          rw [toTs_map]
          refine .tup (SqT.of (xs := .str k :: ((ys.take i ++ [v']) ++ ys.drop (i + 1))) ?_) (.cons (.str _) dd)
          rw [dl_ne p3S, hp3', ed, List.append_nil, tk]
          rfl
        · have b5 := Bx.new (o := .tup ((V.str k :: ys).take (1 + (i : Int)).toNat ++ [v'] ++ ys.drop (i + 1))) bxG.bag hp5
          refine q _ (.tup k (xs.take i ++ [t'] ++ xs.drop (i + 1))) _ (bxG.trans b5) wt rfl ?_
          have dd := dat _ (Bx.refl b5.bag) (bxG.trans b5) (((b2.trans b3).trans b4).trans b5)
          unfold toT
          rw [toTs_map]
          refine .tup (SqT.of (xs := .str k :: ((ys.take i ++ [v']) ++ ys.drop (i + 1))) ?_) (.cons (.str _) dd)
          rw [dl_upd_at trG hp5, tk]
          rfl
      · exact hN _ _ ⟨none, rfl, bx2.trans bx3⟩
    · exact hN _ _ ⟨none, rfl, bx2⟩
  rintro σ' H2 ⟨x4, rfl, bx2⟩
  have tr2 := tr.bx bx2
  have hv2 : Dp K (dl H2 S) (.ref a) (toT (.tup k xs)) := dp_mono (bx2.same hbS) hv
  have ws : ∀ x ∈ ([.tup "any" [.str "x"], .tup "test" [.str "a"], .tup "test" [.str "any", .str "x"], .tup "test" [.str "A", .str "x"], .tup "test" [.str "a", .str ""], .tup "not" [], .tup "not" [.tup k xs, .tup k xs], .tup "and" [.tup k xs], .tup "or" [], .tup "xor" [.tup k xs, .tup k xs], .nil, .tup "test" [.tup "any" [], .str "x"], .tup "or" [.tup k xs, .str "any"], .tup "test" [.str "a", .str "x", .str "y"], .tup "test" [.str "a", .str "0"], .tup "any" [], .tup "and" [.tup k xs, .tup k xs, .tup k xs]] : List Th), WT (n + 2) x := by
    obtain ⟨t0, et⟩ : ∃ t0, t0 = Th.tup k xs := ⟨_, rfl⟩
    rw [← et] at hw ⊢
    exact (wta_cons (wt_t ⟨by decide +kernel, by decide⟩ (by show 1 < 1000; decide) (wta_cons (wt_s ⟨by decide +kernel, by decide⟩) wta_nil)) (wta_cons (wt_t ⟨by decide +kernel, by decide⟩ (by show 1 < 1000; decide) (wta_cons (wt_s ⟨by decide +kernel, by decide⟩) wta_nil)) (wta_cons (wt_t ⟨by decide +kernel, by decide⟩ (by show 2 < 1000; decide) (wta_cons (wt_s ⟨by decide +kernel, by decide⟩) (wta_cons (wt_s ⟨by decide +kernel, by decide⟩) wta_nil))) (wta_cons (wt_t ⟨by decide +kernel, by decide⟩ (by show 2 < 1000; decide) (wta_cons (wt_s ⟨by decide +kernel, by decide⟩) (wta_cons (wt_s ⟨by decide +kernel, by decide⟩) wta_nil))) (wta_cons (wt_t ⟨by decide +kernel, by decide⟩ (by show 2 < 1000; decide) (wta_cons (wt_s ⟨by decide +kernel, by decide⟩) (wta_cons (wt_s ⟨by decide +kernel, by decide⟩) wta_nil))) (wta_cons (wt_t ⟨by decide +kernel, by decide⟩ (by show 0 < 1000; decide) wta_nil) (wta_cons (wt_t ⟨by decide +kernel, by decide⟩ (by show 2 < 1000; decide) (wta_cons hw (wta_cons hw wta_nil))) (wta_cons (wt_t ⟨by decide +kernel, by decide⟩ (by show 1 < 1000; decide) (wta_cons hw wta_nil)) (wta_cons (wt_t ⟨by decide +kernel, by decide⟩ (by show 0 < 1000; decide) wta_nil) (wta_cons (wt_t ⟨by decide +kernel, by decide⟩ (by show 2 < 1000; decide) (wta_cons hw (wta_cons hw wta_nil))) (wta_cons trivial (wta_cons (wt_t ⟨by decide +kernel, by decide⟩ (by show 2 < 1000; decide) (wta_cons (wt_t ⟨by decide +kernel, by decide⟩ (by show 0 < 1000; decide) wta_nil) (wta_cons (wt_s ⟨by decide +kernel, by decide⟩) wta_nil))) (wta_cons (wt_t ⟨by decide +kernel, by decide⟩ (by show 2 < 1000; decide) (wta_cons hw (wta_cons (wt_s ⟨by decide +kernel, by decide⟩) wta_nil))) (wta_cons (wt_t ⟨by decide +kernel, by decide⟩ (by show 3 < 1000; decide) (wta_cons (wt_s ⟨by decide +kernel, by decide⟩) (wta_cons (wt_s ⟨by decide +kernel, by decide⟩) (wta_cons (wt_s ⟨by decide +kernel, by decide⟩) wta_nil)))) (wta_cons (wt_t ⟨by decide +kernel, by decide⟩ (by show 2 < 1000; decide) (wta_cons (wt_s ⟨by decide +kernel, by decide⟩) (wta_cons (wt_s ⟨by decide +kernel, by decide⟩) wta_nil))) (wta_cons (wt_t ⟨by decide +kernel, by decide⟩ (by show 0 < 1000; decide) wta_nil) (wta_cons (wt_t ⟨by decide +kernel, by decide⟩ (by show 3 < 1000; decide) (wta_cons hw (wta_cons hw (wta_cons hw wta_nil)))) wta_nil)))))))))))))))))
  dsimp only [tSeq, tAsg]
  refine evd_lst (K := K) (S := S) (evds_cons (evd_tup tr2 (evds_cons evd_str (evds_cons evd_str evds_nil)) (by simp)) (evds_cons (evd_tup tr2 (evds_cons evd_str (evds_cons evd_str evds_nil)) (by simp)) (evds_cons (evd_tup tr2 (evds_cons evd_str (evds_cons evd_str (evds_cons evd_str evds_nil))) (by simp)) (evds_cons (evd_tup tr2 (evds_cons evd_str (evds_cons evd_str (evds_cons evd_str evds_nil))) (by simp)) (evds_cons (evd_tup tr2 (evds_cons evd_str (evds_cons evd_str (evds_cons evd_str evds_nil))) (by simp)) evds_nil))))) (by simp) fun p1 xs1 H3 s3 hp1 hx1 => ?_
  have bx3 := bx2.trans (Bx.ofSame bx2.bag s3)
  have b3 := Bx.new (o := .lst xs1) bx3.bag hp1
  have tr3 := (tr.bx bx3).bx b3
  have hv3 : Dp K (dl (upd H3 p1 (.lst xs1)) S) (.ref a) (toT (.tup k xs)) := dp_mono ((bx3.trans b3).same hbS) hv
  have hx1' := dpa_mono (b3.same hbS) hx1
  dsimp only [gName, tOp]
  refine ⟨_, rfl, ?_⟩
  dsimp only
  refine evd_lst (K := K) (S := S) (evds_cons (evd_tup tr3 (evds_cons evd_str evds_nil) (by simp)) (evds_cons (evd_tup tr3 (evds_cons evd_str (evds_cons (evd_var rfl hv3) (evds_cons (evd_var rfl hv3) evds_nil))) (by simp)) (evds_cons (evd_tup tr3 (evds_cons evd_str (evds_cons (evd_var rfl hv3) evds_nil)) (by simp)) (evds_cons (evd_tup tr3 (evds_cons evd_str evds_nil) (by simp)) (evds_cons (evd_tup tr3 (evds_cons evd_str (evds_cons (evd_var rfl hv3) (evds_cons (evd_var rfl hv3) evds_nil))) (by simp)) (evds_cons (evd_tup tr3 evds_nil (by simp)) (evds_cons (evd_tup tr3 (evds_cons evd_str (evds_cons (evd_tup tr3 (evds_cons evd_str evds_nil) (by simp)) (evds_cons evd_str evds_nil))) (by simp)) evds_nil))))))) (by simp) fun p2 xs2 H4 s4 hp2 hx2 => ?_
  have sp2 := same_new (o := .lst xs2) hp2
  have s42 := s4.trans sp2
  have hl1 := dpa_len hx1
  have hl2 := dpa_len hx2
  refine ⟨p1, p2, xs1, xs2, rfl, rfl, s42 _ _ upd_same, upd_same, szl (by rw [hl1, hl2]; simp), fun p3 hp3 => ?_⟩
  have bx4 := (bx3.trans b3).trans (Bx.ofSame b3.bag s42)
  have b4 := Bx.new (o := .lst (xs1 ++ xs2)) bx4.bag hp3
  have tr4 := (tr.bx bx4).bx b4
  have hv4 : Dp K (dl (upd (upd H4 p2 (.lst xs2)) p3 (.lst (xs1 ++ xs2))) S) (.ref a) (toT (.tup k xs)) := dp_mono ((bx4.trans b4).same hbS) hv
  have hx12 := dpa_app (dpa_mono ((Bx.ofSame b3.bag s42).same hbS) hx1') (dpa_mono (dl_mono sp2) hx2)
  have hx12' := dpa_mono (b4.same hbS) hx12
  dsimp only [gName, tOp]
  refine ⟨_, rfl, ?_⟩
  dsimp only
  refine evd_lst (K := K) (S := S) (evds_cons (evd_tup tr4 (evds_cons evd_str (evds_cons (evd_var rfl hv4) (evds_cons evd_str evds_nil))) (by simp)) (evds_cons (evd_tup tr4 (evds_cons evd_str (evds_cons evd_str (evds_cons evd_str (evds_cons evd_str evds_nil)))) (by simp)) (evds_cons (evd_tup tr4 (evds_cons evd_str (evds_cons evd_str (evds_cons evd_str evds_nil))) (by simp)) (evds_cons (evd_tup tr4 (evds_cons evd_str evds_nil) (by simp)) (evds_cons (evd_tup tr4 (evds_cons evd_str (evds_cons (evd_var rfl hv4) (evds_cons (evd_var rfl hv4) (evds_cons (evd_var rfl hv4) evds_nil)))) (by simp)) evds_nil))))) (by simp) fun p4 xs3 H5 s5 hp4 hx3 => ?_
  have sp4 := same_new (o := .lst xs3) hp4
  have s54 := s5.trans sp4
  have hl3 := dpa_len hx3
  refine ⟨p3, p4, xs1 ++ xs2, xs3, rfl, rfl, s54 _ _ upd_same, upd_same, szl (by rw [List.length_append, hl1, hl2, hl3]; simp), fun p5 hp5 => ?_⟩
  have bx5 := (bx4.trans b4).trans (Bx.ofSame b4.bag s54)
  have b5 := Bx.new (o := .lst (xs1 ++ xs2 ++ xs3)) bx5.bag hp5
  have bx6 := bx5.trans b5
  have hx123 := dpa_mono (b5.same hbS) (dpa_app (dpa_mono ((Bx.ofSame b4.bag s54).same hbS) hx12') (dpa_mono (dl_mono sp4) hx3))
  have hlen : (xs1 ++ xs2 ++ xs3).length = 17 := by rw [List.length_append, List.length_append, hl1, hl2, hl3]; rfl
  refine ⟨_, rfl, _, rfl, b, l, p5, xs1 ++ xs2 ++ xs3, rfl, b5.bag, of_new bx5.bag hp5, by rw [hlen]; decide, by rw [hlen]; decide, fun x H6 hx bx7 => ?_⟩
  obtain ⟨j, hj⟩ := List.mem_iff_getElem?.mp hx
  obtain ⟨d, hd, hdx⟩ := dpa_get hx123 hj
  obtain ⟨t', ht', ed⟩ : ∃ t' ∈ ([.tup "any" [.str "x"], .tup "test" [.str "a"], .tup "test" [.str "any", .str "x"], .tup "test" [.str "A", .str "x"], .tup "test" [.str "a", .str ""], .tup "not" [], .tup "not" [.tup k xs, .tup k xs], .tup "and" [.tup k xs], .tup "or" [], .tup "xor" [.tup k xs, .tup k xs], .nil, .tup "test" [.tup "any" [], .str "x"], .tup "or" [.tup k xs, .str "any"], .tup "test" [.str "a", .str "x", .str "y"], .tup "test" [.str "a", .str "0"], .tup "any" [], .tup "and" [.tup k xs, .tup k xs, .tup k xs]] : List Th), d = toT t' := by
    have hm := List.mem_of_getElem? hd
    have e : ∀ l : List Th, l.map toT = toTs l := fun l => (toTs_map l).symm
    have hm' : d ∈ toTs ([.tup "any" [.str "x"], .tup "test" [.str "a"], .tup "test" [.str "any", .str "x"], .tup "test" [.str "A", .str "x"], .tup "test" [.str "a", .str ""], .tup "not" [], .tup "not" [.tup k xs, .tup k xs], .tup "and" [.tup k xs], .tup "or" [], .tup "xor" [.tup k xs, .tup k xs], .nil, .tup "test" [.tup "any" [], .str "x"], .tup "or" [.tup k xs, .str "any"], .tup "test" [.str "a", .str "x", .str "y"], .tup "test" [.str "a", .str "0"], .tup "any" [], .tup "and" [.tup k xs, .tup k xs, .tup k xs]] : List Th) := hm
    rw [toTs_map] at hm'
    obtain ⟨t', h1, h2⟩ := List.mem_map.mp hm'
    exact ⟨t', h1, h2.symm⟩
  subst ed
  have hth : ∀ x ∈ ([.tup "any" [.str "x"], .tup "test" [.str "a"], .tup "test" [.str "any", .str "x"], .tup "test" [.str "A", .str "x"], .tup "test" [.str "a", .str ""], .tup "not" [], .tup "not" [.tup k xs, .tup k xs], .tup "and" [.tup k xs], .tup "or" [], .tup "xor" [.tup k xs, .tup k xs], .nil, .tup "test" [.tup "any" [], .str "x"], .tup "or" [.tup k xs, .str "any"], .tup "test" [.str "a", .str "x", .str "y"], .tup "test" [.str "a", .str "0"], .tup "any" [], .tup "and" [.tup k xs, .tup k xs, .tup k xs]] : List Th), isTh x = true := by simp [isTh]
  exact q x t' H6 (bx6.trans bx7) (ws t' ht') (hth t' ht') (dp_mono (bx7.same hbS) hdx)
theorem ok__law_bent_tree (T : Txt K mg) {f : Addr} {fd : FuncData} (F : Fun K "_law_bent_tree" "_law_bent_tree" s__law_bent_tree f fd) (b : Binds K fd ["_law_bag_here", "_law_tree_here"] []) (g : mg "_law_bent_tree" = some (.ref f)) : ∀ n, FnOk P w K mg base CX0 (n + 3) f fd ["_law_bag_here", "_law_tree_here"] (sp_bent K n)
  | 0 => by
    have no : ∀ vs H Q E, ¬ sp_bent K 0 vs H Q E := fun vs H Q E h => by
      obtain ⟨_, _, _, _, _, _, _, _, _, _, _, hw, _⟩ := h
      exact hw
    exact ⟨fun vs H Q E h => absurd h (no vs H Q E), fun A outer s H args us vs Q E _ _ _ _ h => absurd h (no vs H Q E)⟩
  | n + 1 => ok__law_bent_tree_step T F (ok__law_bent_tree T F b g n) b g
end
end Hr

set_option Elab.async false
set_option linter.all false
set_option maxRecDepth 100000
set_option maxHeartbeats 4000000
namespace Hr
open PySem PySem.Spec PyProof.Rows L2
section
variable {P : Program} {w : World} {K : PySem.W.Frag} {mg : Str → Option Value} {base : Heap}
theorem rep_flat {α : Type} (x : α) : ∀ n : Nat, (List.replicate n [x]).flatten = List.replicate n x
  | 0 => rfl
  | n + 1 => by rw [List.replicate_succ, List.flatten_cons, rep_flat x n, List.replicate_succ]; rfl
theorem FOk.strs {fs : List Fld} (h : FOk fs) : ∀ f ∈ fs, PyData.strOk f.1 = true ∧ ∀ m ∈ f.2, PyData.strOk m = true := fun f hf => ⟨(h.1 f hf).1.ok, fun m hm => ((h.1 f hf).2.2.2.1.1 m hm).ok⟩
theorem FOk.sok {fs : List Fld} (h : FOk fs) : ∀ f ∈ fs, sOk f.1 ∧ ∀ m ∈ f.2, sOk m := fun f hf => by
  have h1 := h.1 f hf
  refine ⟨⟨h1.1.ok, by have := h1.1.2.1; have e : f.1.length = (cl f.1).length := rfl; omega⟩, fun m hm => ?_⟩
  have h2 := h1.2.2.2.1.1 m hm
  exact ⟨h2.ok, by have := h2.2.1; have e : m.length = (cl m).length := rfl; omega⟩
theorem ok_law {f : Addr} {fd : FuncData} (T : Txt K mg) (F : Fun K "law" "law" s_law f fd) : FnOk P w K mg base CX0 60 f fd ["_law_script"] (sp_law K) := by
  obtain ⟨f__law_bag, fd__law_bag, F__law_bag, b__law_bag, g__law_bag⟩ := T.h__law_bag
  obtain ⟨f__law_fields, fd__law_fields, F__law_fields, b__law_fields, g__law_fields⟩ := T.h__law_fields
  obtain ⟨f__law_same, fd__law_same, F__law_same, b__law_same, g__law_same⟩ := T.h__law_same
  obtain ⟨f__law_tree, fd__law_tree, F__law_tree, b__law_tree, g__law_tree⟩ := T.h__law_tree
  obtain ⟨f__law_is_tree, fd__law_is_tree, F__law_is_tree, b__law_is_tree, g__law_is_tree⟩ := T.h__law_is_tree
  obtain ⟨f__law_test, fd__law_test, F__law_test, b__law_test, g__law_test⟩ := T.h__law_test
  obtain ⟨f_is_condition, fd_is_condition, F_is_condition, b_is_condition, g_is_condition, kb_is_condition⟩ := T.h_is_condition
  obtain ⟨f__law_pull, fd__law_pull, F__law_pull, b__law_pull, g__law_pull⟩ := T.h__law_pull
  obtain ⟨f__law_bent_tree, fd__law_bent_tree, F__law_bent_tree, b__law_bent_tree, g__law_bent_tree⟩ := T.h__law_bent_tree
  obtain ⟨f__law_many, fd__law_many, F__law_many, b__law_many, g__law_many⟩ := T.h__law_many
  have G__law_bag := ok__law_bag (P := P) (w := w) (base := base) T F__law_bag
  have G__law_same := ok__law_same (P := P) (w := w) (base := base) T F__law_same b__law_same g__law_same 3
  have G__law_fields := ok__law_fields (P := P) (w := w) (base := base) T F__law_fields
  have G__law_pull := ok__law_pull (P := P) (w := w) (base := base) T F__law_pull
  have G__law_test := ok__law_test (P := P) (w := w) (base := base) T F__law_test
  have G__law_tree := ok__law_tree (P := P) (w := w) (base := base) T F__law_tree b__law_tree g__law_tree 3
  have G__law_many := ok__law_many (P := P) (w := w) (base := base) T F__law_many b__law_many g__law_many 8
  have G__law_is_tree := ok__law_is_tree (P := P) (w := w) (base := base) T F__law_is_tree b__law_is_tree g__law_is_tree 9
  have G__law_bent_tree := FnOk.some (ι := Fin 11) fun i => (ok__law_bent_tree (P := P) (w := w) (base := base) T F__law_bent_tree b__law_bent_tree g__law_bent_tree i.val).mono (show i.val + 3 ≤ 13 by omega)
  have G_is_condition := ok_is_condition (P := P) (w := w) (base := base) T F_is_condition
  refine F.ok sc_law (fun vs H Q E h => ?_) (fun cdv A outer s H vs Q E hr h => ?_)
  · obtain ⟨a, ns, rfl, _⟩ := h
    rfl
  obtain ⟨a, ns, rfl, hS, hn, q⟩ := h
  have hr__law_bag : Room 1 _ := hr.mono (by decide)
  have hr__law_pull : Room 1 _ := hr.mono (by decide)
  have hr__law_same : Room 3 _ := hr.mono (by decide)
  have hr__law_fields : Room 4 _ := hr.mono (by decide)
  have hr__law_test : Room 3 _ := hr.mono (by decide)
  have hr__law_tree : Room 7 _ := hr.mono (by decide)
  have hr__law_many : Room 9 _ := hr.mono (by decide)
  have hr__law_is_tree : Room 11 _ := hr.mono (by decide)
  have hr__law_bent_tree : Room 13 _ := hr.mono (by decide)
  have hr_is_condition : Room 6 _ := hr.mono (by decide)
  refine ⟨_, (pss_cons (ps_set (i := 1) sc_law.nd rfl (.inl rfl) (pe_call G__law_bag hr__law_bag (by rfl) g__law_bag F__law_bag.kp b__law_bag .nil pass0 (pa_cons (pv 0) pa_nil)))
      (pss_cons (ps_set (i := 2) sc_law.nd rfl (.inl rfl) (pe_call G__law_fields hr__law_fields (by rfl) g__law_fields F__law_fields.kp b__law_fields .nil pass0 (pa_cons (pv 1) (pa_cons pe_int pa_nil))))
      (pss_cons (ps_for PassesOwn.never rfl (pi_range1 (by rfl) T.m_range (pa_cons pe_int pa_nil)) (pg_name (i := 3) sc_law.nd rfl (.inl rfl)) (pss_cons (ps_set (i := 6) sc_law.nd rfl (.inl rfl) (pe_call G__law_tree hr__law_tree (by rfl) g__law_tree F__law_tree.kp b__law_tree .nil pass0 (pa_cons (pv 1) (pa_cons (pv 2) (pa_cons (pe_op op_add pe_int (pe_call G__law_pull hr__law_pull (by rfl) g__law_pull F__law_pull.kp b__law_pull .nil pass0 (pa_cons (pv 1) (pa_cons pe_int pa_nil)))) pa_nil)))))
      (pss_cons (ps_for PassesOwn.never rfl (pi_range1 (by rfl) T.m_range (pa_cons (pe_call G__law_pull hr__law_pull (by rfl) g__law_pull F__law_pull.kp b__law_pull .nil pass0 (pa_cons (pv 1) (pa_cons pe_int pa_nil))) pa_nil)) (pg_name (i := 7) sc_law.nd rfl (.inl rfl)) (pss_one (ps_set (i := 6) sc_law.nd rfl (.inl rfl) (pe_ifExp (pt_cmpR (op_neDK (K := K) hr.units) (pv 6) (pe_tup pa_nil) (nomark _)) (pe_call G__law_bent_tree hr__law_bent_tree (by rfl) g__law_bent_tree F__law_bent_tree.kp b__law_bent_tree .nil pass0 (pa_cons (pv 1) (pa_cons (pv 6) pa_nil))) (pv 6)))))
      (pss_cons (ps_set (i := 8) sc_law.nd rfl (.inl rfl) (pe_call G__law_is_tree hr__law_is_tree (by rfl) g__law_is_tree F__law_is_tree.kp b__law_is_tree .nil pass0 (pa_cons (pv 6) (pa_cons pe_int pa_nil))))
      (pss_cons (ps_set (i := 8) sc_law.nd rfl (.inl rfl) (pe_and (pv 8) (pe_one (pe_cmpR op_le (pe_call G__law_many hr__law_many (by rfl) g__law_many F__law_many.kp b__law_many .nil pass0 (pa_cons (pv 6) pa_nil)) pe_int (nomark _)))))
      (pss_one (ps_if (pt_not (pt_val (pe_call G__law_same hr__law_same (by rfl) g__law_same F__law_same.kp b__law_same .nil pass0 (pa_cons (pe_lst (pa_cons (pe_call G_is_condition hr_is_condition (by rfl) g_is_condition F_is_condition.kp b_is_condition .nil pass0 (pa_cons (pv 6) pa_nil)) (pa_cons (pe_kw G_is_condition hr_is_condition (by rfl) g_is_condition F_is_condition.kp kb_is_condition pass0 (pk_cons (pv 6) pk_nil)) pa_nil))) (pa_cons (pe_lst (pa_cons (pv 8) (pa_cons (pv 8) pa_nil))) pa_nil))))) (pss_one (ps_ret pe_bl)) pss_nil)))))))
      (pss_cons (ps_par (i := 9) (j := 10) (by rfl) sc_law.nd rfl rfl (by decide) rfl rfl (pa_cons (pe_call G__law_test hr__law_test (by rfl) g__law_test F__law_test.kp b__law_test .nil pass0 (pa_cons (pv 1) (pa_cons (pv 2) pa_nil))) (pa_cons (pe_lst pa_nil) pa_nil)) (by rfl))
      (pss_cons (ps_for PassesOwn.never rfl (pi_range1 (by rfl) T.m_range (pa_cons pe_int pa_nil)) (pg_name (i := 4) sc_law.nd rfl (.inl rfl)) (pss_cons (ps_expr (pe_bm PySem.F.plainAttrs_list PySem.F.slot_list_append PySem.F.type_list_append mt_append (pv 10) (pa_cons (pe_call G_is_condition hr_is_condition (by rfl) g_is_condition F_is_condition.kp b_is_condition .nil pass0 (pa_cons (pv 9) pa_nil)) pa_nil)))
      (pss_one (ps_set (i := 9) sc_law.nd rfl (.inl rfl) (pe_tup (pa_cons pe_str (pa_cons (pv 9) pa_nil)))))))
      (pss_cons (ps_setLc (i := 5) (own := [("_law_many_here", 11)]) (g := gName 11) rfl sc_law.nd rfl rfl (sw_true rfl rfl rfl (by decide +kernel)) (pi_tupK (K := K) (pe_tup (pa_cons pe_int (pa_cons pe_int (pa_cons pe_int (pa_cons pe_int pa_nil)))))) (blkOk_by (own := [("_law_many_here", 11)]) (N := N_law) (sc := defScope s_law) (by decide +kernel)) (fun _ _ _ _ _ => pg_name (i := 11) sc_law.nd rfl (.inl rfl)) (fun _ _ _ _ _ => pts_nil) (fun _ _ _ _ _ => (pe_call G_is_condition hr_is_condition (by rfl) g_is_condition F_is_condition.kp b_is_condition .nil pass0 (pa_cons (pe_callTy (call_tuple_ofK (K := K)) (by rfl) T.m_tuple (by decide +kernel) (pa_cons (pe_op op_cat (pe_lst (pa_cons pe_str pa_nil)) (pe_op op_rep (pe_lst (pa_cons (pe_tup (pa_cons pe_str pa_nil)) pa_nil)) (pv 11))) pa_nil)) pa_nil))))
      (pss_one (ps_ret (pe_call G__law_same hr__law_same (by rfl) g__law_same F__law_same.kp b__law_same .nil pass0 (pa_cons (pe_op op_cat (pv 10) (pv 5)) (pa_cons (pe_op op_cat (pe_op op_cat (pe_op op_rep (pe_lst (pa_cons pe_bl pa_nil)) pe_int) (pe_lst (pa_cons pe_bl pa_nil))) (pe_lst (pa_cons pe_bl (pa_cons pe_bl (pa_cons pe_bl (pa_cons pe_bl pa_nil)))))) pa_nil))))))))))), ?_⟩
  refine ⟨_, rfl, a, ns, rfl, hS, hn, fun b l H1 hb _ _ => ?_⟩
  refine ⟨_, rfl, b, l, 3, [b], rfl, hb, List.mem_cons_self, Tr.one hb, by decide, by decide, fun fv fs H2 bx2 hfv hok hfl => ?_⟩
  have hbS : b ∈ [b] := List.mem_cons_self
  cases hfv with
  | @lst fa fxs _ hfs hfall =>
    have hfD : Dp K (dl H2 [b]) (.ref fa) (fldsD fs) := .lst hfs hfall
    refine ⟨8, rfl, by decide, by decide, for_it (walk_range (lo := 0) (n := 8)) (fun i σ H => ∃ x3 x6 x7 x8, σ = [some (.ref a), some (.ref b), some (.ref fa), x3, none, none, x6, x7, x8, none, none, none] ∧ Bx b l H2 H) ⟨none, none, none, none, rfl, Bx.refl bx2.bag⟩ (fun _ _ _ _ _ => trivial) (fun i x σ H3 H' hi hI hy => ?_) (fun σ H3 hI => ?_)⟩
    · obtain ⟨x3, x6, x7, x8, rfl, bx3⟩ := hI
      obtain ⟨rfl, rfl⟩ := hy
      refine ⟨_, rfl, _, rfl, _, rfl, b, l, 3, rfl, bx3.bag, by decide, by decide, fun d H4 d0 d1 bx4 => ⟨1, d, rfl, rfl, b, l, fa, 1 + d, [b], fs, rfl, bx4.bag, hbS, Tr.one bx4.bag, dp_mono ((bx3.trans bx4).same hbS) hfD, hok, by omega, by omega, by omega, fun v c H5 bx5 hg hv => ?_⟩⟩
      have hg3 : Gd fs 3 c := hg.ups (by omega)
      have hwn := hg3.wn hok.strs
      have hwt := hg3.wt hok.sok
      have bxA := (bx3.trans bx4).trans bx5
      rw [← th_toD hwn] at hv
      -- the bends
      refine ⟨_, rfl, b, l, 3, rfl, bx5.bag, by decide, by decide, fun e H6 e0 e1 bx6 => ⟨e, rfl, by omega, by omega, ?_⟩⟩
      refine for_it (walk_range (lo := 0) (n := e.toNat)) (fun i σ H => ∃ x3 x7 x8 v t, σ = [some (.ref a), some (.ref b), some (.ref fa), x3, none, none, some v, x7, x8, none, none, none] ∧ Bx b l H2 H ∧ Dp K (dl H [b]) v (toT t) ∧ WT (4 + i) t ∧ isTh t = true) ⟨_, _, _, v, th c, rfl, bxA.trans bx6, dp_mono (bx6.same hbS) hv, hwt.1, hwt.2⟩ (fun _ _ _ _ _ => trivial) (fun j x σ H7 H8 hj hI hy => ?_) (fun σ H7 hI => ?_)
      · obtain ⟨x3, x7, x8, v, t, rfl, bx7, hv7, hw7, hth⟩ := hI
        obtain ⟨rfl, rfl⟩ := hy
        refine ⟨_, rfl, Nat.zero_le _, fun p hp => ?_⟩
        have sp := same_new (o := .tup []) hp
        have bxp := bx7.trans (Bx.ofSame bx7.bag sp)
        have hvp := dp_mono (dl_mono (S := [b]) sp) hv7
        refine ⟨toT t, .tuple [], dp_mono dl_le hvp, .tup (SqT.of upd_same) .nil, deep_shaped hw7.deep (by omega), unit_shaped, _, rfl, ?_⟩
        cases t with
        | str s => cases hth
        | nil =>
          rw [eqv_nilT]
          exact bF rfl ⟨_, rfl, _, _, _, v, .nil, rfl, bxp, hvp, hw7.up, rfl⟩
        | tup k xs =>
          rw [eqv_tupT]
          refine bT rfl ⟨_, rfl, _, rfl, ⟨4 + j, by omega⟩, b, l, v, k, xs, [b], rfl, bxp.bag, hbS, Tr.one bxp.bag, hvp, hw7, by show 4 + j ≤ 40; omega, fun v' t' H9 bx9 hw9 hth9 hv9 => ?_⟩
          exact ⟨_, _, _, v', t', rfl, bxp.trans bx9, hv9, hw9, hth9⟩
      · obtain ⟨x3, x7, x8, v, t, rfl, bx7, hv7, hw7, hth⟩ := hI
        have hvH := dp_mono dl_le hv7
        refine ⟨_, rfl, v, t, 4 + e.toNat, 8, rfl, by decide, hvH, hw7, by omega, fun H8 s8 => ?_⟩
        have due : ∀ N : V → Hp → Prop, (∀ H9, Same H8 H9 → N (.bl (isT 8 t && decide (cnt t ≤ 30))) H9) → (tAndV (tVar 8) (tOp (rI0 fun i j => .bl (decide (i ≤ j))) (tCall (sp_many K (fun c => (size c : Int)) 8) [] E0 (tCons (tVar 6) tNil)) (tC (.int 30)))) [some (.ref a), some (.ref b), some (.ref fa), x3, none, none, some v, x7, some (.bl (isT 8 t)), none, none, none] H8 N := by
          intro N hN
          refine ⟨_, rfl, _, rfl, ?_⟩
          cases ei : isT 8 t with
          | true =>
            obtain ⟨c', ec, hwc, hsz⟩ := isT_cd 8 _ t ei hw7
            refine iteT ⟨_, rfl, v, c', rfl, by rw [ec]; exact dp_mono s8 hvH, hwc, fun H9 s9 => ⟨_, _, rfl, rfl, ?_⟩⟩
            have h9 := hN H9 s9
            rw [ei, Bool.true_and] at h9
            have ed : decide ((size c' : Int) ≤ 30) = decide (cnt t ≤ 30) := dec_p (by omega)
            show N (.bl (decide ((size c' : Int) ≤ 30))) H9
            rw [ed]
            exact h9
          | false =>
            have h9 := hN H8 (Same.refl _)
            rw [ei, Bool.false_and] at h9
            exact iteF h9
        refine due _ fun H9 s9 => ?_
        have hv9 := dp_mono (s8.trans s9) hvH
        obtain ⟨r, er⟩ : ∃ r, r = (isT 8 t && decide (cnt t ≤ 30)) := ⟨_, rfl⟩
        rw [← er]
        refine ⟨_, rfl, v, t, _, rfl, hv9, hw7, fun H10 s10 => ⟨_, rfl, v, t, _, rfl, dp_mono s10 hv9, hw7, fun H11 s11 => ⟨by show 2 ≤ sizeLine; decide, fun p hp => ⟨_, rfl, _, rfl, by show 2 ≤ sizeLine; decide, fun p2 hp2 => ?_⟩⟩⟩⟩
        rw [← er] at hp2 ⊢
        have sp := same_new (o := .lst [.bl r, .bl r]) hp
        have sp2 := same_new (o := .lst [.bl r, .bl r]) hp2
        refine ⟨_, _, .list ([r, r].map PyData.bool), rfl, .lst (SqL.of (sp2 _ _ upd_same)) (dl_bls [r, r]), .lst (SqL.of upd_same) (dl_bls [r, r]), rfl, fun H12 s12 => ⟨_, rfl, iteF ?_⟩⟩
        exact ⟨_, _, _, _, rfl, bx7.trans (Bx.ofSame bx7.bag ((((((s8.trans s9).trans s10).trans s11).trans sp).trans sp2).trans s12))⟩
    · obtain ⟨x3, x6, x7, x8, rfl, bx3⟩ := hI
      refine ⟨_, rfl, _, rfl, b, l, fa, [b], fs, rfl, bx3.bag, hbS, Tr.one bx3.bag, dp_mono (bx3.same hbS) hfD, hok, by omega, fun v fl m H4 bx4 hfl' hm hv => ⟨Nat.zero_le _, fun D hD => ⟨_, _, rfl, ?_⟩⟩⟩
      have f1 := hok.1 fl hfl'
      have f2 := f1.2.2.2.1.1 m hm
      have fk := hok.sok fl hfl'
      have tok : testOk [.str fl.1, .str m] = true := by
        show ((consists fl.1 nameC && !decide (fl.1 = "any")) && consists m valueC) = true
        rw [consists_nm f1.1, consists_vl f2, decide_eq_false f1.2.1]
        rfl
      have hwn : Wn 1 (.test fl.1 m) := ⟨fk.1.1, (fk.2 m hm).1⟩
      rw [← th_toD hwn] at hv
      have e0 : th (.test fl.1 m) = chain fl.1 m 0 := by unfold th; rfl
      rw [e0] at hv
      have sD := same_new (o := .lst []) hD
      refine ⟨9, rfl, by decide, by decide, for_it (walk_range (lo := 0) (n := 9)) (fun i σ H' => ∃ x4 v, σ = [some (.ref a), some (.ref b), some (.ref fa), x3, x4, none, x6, x7, x8, some v, some (.ref D), none] ∧ H' D = some (.lst ((List.range i).map fun j => .bl (decide (j < 8)))) ∧ Dp K (dl H' [D]) v (toT (chain fl.1 m i))) ⟨none, v, rfl, upd_same, dp_mono ((dl_le (S := [b])).trans (same_dl sD hD)) hv⟩ (fun _ _ _ _ _ => trivial) (fun i x σ H5 H6 hi hI hy => ?_) (fun σ H5 hI => ?_)⟩
      · obtain ⟨x4, v, rfl, hD5, hv5⟩ := hI
        obtain ⟨rfl, rfl⟩ := hy
        have wv := chain_wt fk.1 (fk.2 m hm) i
        refine ⟨_, rfl, .inl ⟨rfl, _, SqL.of hD5⟩, _, rfl, v, _, _, rfl, dp_mono dl_le hv5, wv, fun H7 s7 => ⟨D, _, _, rfl, rfl, s7 _ _ hD5, szt (by simp; omega), ?_⟩⟩
        rw [chain_isT tok, chain_cnt]
        have eb : (decide (i < 8) && decide (i + 1 ≤ 30)) = decide (i < 8) := by rw [decide_eq_true (show i + 1 ≤ 30 by omega), Bool.and_true]
        rw [eb]
        refine ⟨_, rfl, by show 2 ≤ sizeLine; decide, fun t ht => ?_⟩
        have hD8 : (upd H7 D (.lst ((List.range i).map (fun j => V.bl (decide (j < 8))) ++ [.bl (decide (i < 8))]))) D = some (.lst ((List.range (i + 1)).map fun j => .bl (decide (j < 8)))) := by
          rw [upd_same, List.range_succ, List.map_append]
          rfl
        have trD : Tr (upd H7 D (.lst ((List.range i).map (fun j => V.bl (decide (j < 8))) ++ [.bl (decide (i < 8))]))) [D] := fun a ha => by
          rw [List.mem_singleton.mp ha]
          exact ⟨_, hD8⟩
        refine ⟨_, .ref t, rfl, by rw [upd_ne (ne_of_none hD8 ht)]; exact hD8, ?_⟩
        unfold chain toT
        rw [toTs_map]
        refine .tup (SqT.of (dl_upd_at trD ht)) (.cons (.str _) (.cons (dp_mono (dl_same_new trD ht) ?_) .nil))
        rw [dl_upd List.mem_cons_self]
        exact dp_mono (dl_mono s7) hv5
      · obtain ⟨x4, v, rfl, hD5, hv5⟩ := hI
        -- the wide ones
        refine ⟨by show 4 ≤ sizeLine; decide, fun tp htp => ⟨tp, rfl, ⟨_, SqT.of upd_same⟩, fun D2 hD2 => ?_⟩⟩
        have st := same_new (o := .tup [.int 1, .int 2, .int 29, .int 30]) htp
        refine lc_val (n := 4) (walk_tup (xs := [.int 1, .int 2, .int 29, .int 30])) hD2 (fun i => .bl ([false, true, true, false].getD i false)) (fun H' s' => Same.seqT s' (SqT.of upd_same)) (by decide) (fun i x H6 H7 Qe Z hi sm hq hy => ?_) (fun H6 sm hL => ?_)
        · obtain ⟨rfl, hx⟩ := hy
          obtain ⟨mm, rfl, hmm, hval⟩ : ∃ mm : Nat, x = .int mm ∧ mm < 1000 ∧ (isT 8 (wideT mm) && decide (cnt (wideT mm) ≤ 30)) = [false, true, true, false].getD i false := by
            have hi4 : i = 0 ∨ i = 1 ∨ i = 2 ∨ i = 3 := by omega
            rcases hi4 with rfl | rfl | rfl | rfl
            · cases hx; exact ⟨1, rfl, by decide, by rw [wide_isT, wide_cnt]; rfl⟩
            · cases hx; exact ⟨2, rfl, by decide, by rw [wide_isT, wide_cnt]; rfl⟩
            · cases hx; exact ⟨29, rfl, by decide, by rw [wide_isT, wide_cnt]; rfl⟩
            · cases hx; exact ⟨30, rfl, by decide, by rw [wide_isT, wide_cnt]; rfl⟩
          rw [← hval] at hq
          refine ⟨rfl, yes ?_⟩
          refine ⟨by show 1 ≤ sizeLine; decide, fun p1 hp1 => ⟨by show 1 ≤ sizeLine; decide, fun t1 ht1 => ⟨by show 1 ≤ sizeLine; decide, fun p2 hp2 => ⟨_, rfl, p2, (mm : Int), _, rfl, rfl, upd_same, by omega, by omega, szl (by show 1 * (mm : Int).toNat ≤ _; omega), fun p3 hp3 => ?_⟩⟩⟩⟩
          rw [show (List.replicate (mm : Int).toNat [V.ref t1]).flatten = List.replicate mm (.ref t1) by rw [Int.toNat_natCast]; exact rep_flat _ _]
          have s1 := same_new (o := .lst [.str "or"]) hp1
          have s2 := same_new (o := .tup [.str "any"]) ht1
          have s3 := same_new (o := .lst [.ref t1]) hp2
          have s4 := same_new (o := .lst (List.replicate mm (V.ref t1))) hp3
          refine ⟨p1, p3, _, _, rfl, rfl, s4 _ _ (s3 _ _ (s2 _ _ upd_same)), upd_same, szl (by rw [List.length_replicate]; show 1 + mm ≤ _; omega), fun p4 hp4 => ⟨p4, _, rfl, .inl ⟨SqL.of upd_same, fun p5 hp5 => ?_⟩⟩⟩
          have s5 := same_new (o := .lst ([V.str "or"] ++ List.replicate mm (V.ref t1))) hp4
          have s6 := same_new (o := .tup ([V.str "or"] ++ List.replicate mm (V.ref t1))) hp5
          have sAll := ((((s1.trans s2).trans s3).trans s4).trans s5).trans s6
          have ht1' := (((s3.trans s4).trans s5).trans s6) _ _ (upd_same (H := upd H7 p1 (.lst [.str "or"])) (a := t1) (o := .tup [.str "any"]))
          refine ⟨_, wideT mm, 2, rfl, ?_, wide_wt hmm, fun H8 s8 => hq H8 (sAll.trans s8)⟩
          unfold wideT toT
          rw [toTs_map, List.map_replicate]
          refine .tup (SqT.of upd_same) (.cons (.str _) (dpa_of (by rw [List.length_replicate]; show (List.replicate mm (V.ref t1)).length = _; rw [List.length_replicate]) fun j y d hy hd => ?_))
          have ey : y = .ref t1 := List.eq_of_mem_replicate (List.mem_of_getElem? hy)
          have ed : d = toT (.tup "any" []) := List.eq_of_mem_replicate (List.mem_of_getElem? hd)
          rw [ey, ed]
          unfold toT toTs
          exact .tup (SqT.of ht1') (.cons (.str _) .nil)
        · have hD6 := (st.trans sm) _ _ hD5
          refine ⟨_, rfl, _, rfl, D, D2, _, _, rfl, rfl, hD6, hL, by show 13 ≤ sizeLine; decide, fun p hp => ?_⟩
          refine ⟨by show 1 ≤ sizeLine; decide, fun p1 hp1 => ⟨p1, 8, _, rfl, rfl, upd_same, by decide, by decide, by show 8 ≤ sizeLine; decide, fun p2 hp2 => ⟨by show 1 ≤ sizeLine; decide, fun p3 hp3 => ?_⟩⟩⟩
          have a1 := same_new (o := .lst [.bl true]) hp1
          have a2 := same_new (o := .lst (List.replicate (8 : Int).toNat [V.bl true]).flatten) hp2
          have a3 := same_new (o := .lst [.bl false]) hp3
          refine ⟨p2, p3, _, _, rfl, rfl, a3 _ _ upd_same, upd_same, by show 9 ≤ sizeLine; decide, fun p4 hp4 => ⟨by show 4 ≤ sizeLine; decide, fun p5 hp5 => ?_⟩⟩
          have a4 := same_new (o := .lst ((List.replicate (8 : Int).toNat [V.bl true]).flatten ++ [.bl false])) hp4
          have a5 := same_new (o := .lst [.bl false, .bl true, .bl true, .bl false]) hp5
          refine ⟨p4, p5, _, _, rfl, rfl, a5 _ _ upd_same, upd_same, by show 13 ≤ sizeLine; decide, fun p6 hp6 => ?_⟩
          have a6 := same_new (o := .lst ((List.replicate (8 : Int).toNat [V.bl true]).flatten ++ [.bl false] ++ [.bl false, .bl true, .bl true, .bl false])) hp6
          have h0 := (((((a1.trans a2).trans a3).trans a4).trans a5).trans a6) _ _ (upd_same (H := H6) (a := p))
          refine ⟨_, _, .list ([true, true, true, true, true, true, true, true, false, false, true, true, false].map PyData.bool), rfl, .lst (SqL.of h0) (dl_bls [true, true, true, true, true, true, true, true, false, false, true, true, false]), .lst (SqL.of upd_same) (dl_bls [true, true, true, true, true, true, true, true, false, false, true, true, false]), rfl, fun H7 _ => q _⟩
end
theorem all_mk {l : PySem.W.OpenLaw} {w : World} {K : PySem.W.Frag} {h : Heap} {mg : Str → Option Value} {fa : Addr} (X : K.In h) (G : h.Ns mainGlobals mg) (hfa : mg "law" = some (.ref fa))
    {f0 : Addr} {od0 an0 : Option Addr} {sl0 : Array (Option Value)} {oc0 kV0 dc0 pm0 cd0 ct0 : Value}
    (a0 : PySem.W.nsIn K mainGlobals "consists_of" = some (some (.ref f0))) (l0 : K.lookup f0 = some ⟨oc0, od0, .func (PySem.W.fnOf "consists_of" "consists_of" (defArgs s_consists_of) (defBody s_consists_of) (defScope s_consists_of) .none kV0 dc0 pm0 an0 cd0 ct0), sl0⟩) (c0 : PySem.W.codeIn K cd0 "consists_of" = true) (k0 : PySem.W.keepIn K (.ref f0) = true)
    {f1 : Addr} {od1 an1 : Option Addr} {sl1 : Array (Option Value)} {oc1 kV1 dc1 pm1 cd1 ct1 : Value}
    (a1 : PySem.W.nsIn K mainGlobals "is_name" = some (some (.ref f1))) (l1 : K.lookup f1 = some ⟨oc1, od1, .func (PySem.W.fnOf "is_name" "is_name" (defArgs s_is_name) (defBody s_is_name) (defScope s_is_name) .none kV1 dc1 pm1 an1 cd1 ct1), sl1⟩) (c1 : PySem.W.codeIn K cd1 "is_name" = true) (k1 : PySem.W.keepIn K (.ref f1) = true)
    {f2 : Addr} {od2 an2 : Option Addr} {sl2 : Array (Option Value)} {oc2 kV2 dc2 pm2 cd2 ct2 : Value}
    (a2 : PySem.W.nsIn K mainGlobals "is_value" = some (some (.ref f2))) (l2 : K.lookup f2 = some ⟨oc2, od2, .func (PySem.W.fnOf "is_value" "is_value" (defArgs s_is_value) (defBody s_is_value) (defScope s_is_value) .none kV2 dc2 pm2 an2 cd2 ct2), sl2⟩) (c2 : PySem.W.codeIn K cd2 "is_value" = true) (k2 : PySem.W.keepIn K (.ref f2) = true)
    {f3 : Addr} {od3 an3 : Option Addr} {sl3 : Array (Option Value)} {oc3 kV3 dc3 pm3 cd3 ct3 : Value}
    (a3 : PySem.W.nsIn K mainGlobals "is_field_name" = some (some (.ref f3))) (l3 : K.lookup f3 = some ⟨oc3, od3, .func (PySem.W.fnOf "is_field_name" "is_field_name" (defArgs s_is_field_name) (defBody s_is_field_name) (defScope s_is_field_name) .none kV3 dc3 pm3 an3 cd3 ct3), sl3⟩) (c3 : PySem.W.codeIn K cd3 "is_field_name" = true) (k3 : PySem.W.keepIn K (.ref f3) = true)
    {f4 : Addr} {od4 an4 : Option Addr} {sl4 : Array (Option Value)} {oc4 kV4 dc4 pm4 cd4 ct4 : Value}
    (a4 : PySem.W.nsIn K mainGlobals "has_form" = some (some (.ref f4))) (l4 : K.lookup f4 = some ⟨oc4, od4, .func (PySem.W.fnOf "has_form" "has_form" (defArgs s_has_form) (defBody s_has_form) (defScope s_has_form) .none kV4 dc4 pm4 an4 cd4 ct4), sl4⟩) (c4 : PySem.W.codeIn K cd4 "has_form" = true) (k4 : PySem.W.keepIn K (.ref f4) = true)
    {f5 : Addr} {od5 an5 : Option Addr} {sl5 : Array (Option Value)} {oc5 kV5 dc5 pm5 cd5 ct5 : Value}
    (a5 : PySem.W.nsIn K mainGlobals "is_test_of" = some (some (.ref f5))) (l5 : K.lookup f5 = some ⟨oc5, od5, .func (PySem.W.fnOf "is_test_of" "is_test_of" (defArgs s_is_test_of) (defBody s_is_test_of) (defScope s_is_test_of) .none kV5 dc5 pm5 an5 cd5 ct5), sl5⟩) (c5 : PySem.W.codeIn K cd5 "is_test_of" = true) (k5 : PySem.W.keepIn K (.ref f5) = true)
    {f6 : Addr} {od6 an6 : Option Addr} {sl6 : Array (Option Value)} {oc6 kV6 dc6 pm6 cd6 ct6 : Value}
    (a6 : PySem.W.nsIn K mainGlobals "parts_of" = some (some (.ref f6))) (l6 : K.lookup f6 = some ⟨oc6, od6, .func (PySem.W.fnOf "parts_of" "parts_of" (defArgs s_parts_of) (defBody s_parts_of) (defScope s_parts_of) .none kV6 dc6 pm6 an6 cd6 ct6), sl6⟩) (c6 : PySem.W.codeIn K cd6 "parts_of" = true) (k6 : PySem.W.keepIn K (.ref f6) = true)
    {f7 : Addr} {od7 an7 : Option Addr} {sl7 : Array (Option Value)} {oc7 kV7 dc7 pm7 cd7 ct7 : Value}
    (a7 : PySem.W.nsIn K mainGlobals "is_condition" = some (some (.ref f7))) (l7 : K.lookup f7 = some ⟨oc7, od7, .func (PySem.W.fnOf "is_condition" "is_condition" (defArgs s_is_condition) (defBody s_is_condition) (defScope s_is_condition) .none kV7 dc7 pm7 an7 cd7 ct7), sl7⟩) (c7 : PySem.W.codeIn K cd7 "is_condition" = true) (k7 : PySem.W.keepIn K (.ref f7) = true)
    {f8 : Addr} {od8 an8 : Option Addr} {sl8 : Array (Option Value)} {oc8 kV8 dc8 pm8 cd8 ct8 : Value}
    (a8 : PySem.W.nsIn K mainGlobals "_law_bag" = some (some (.ref f8))) (l8 : K.lookup f8 = some ⟨oc8, od8, .func (PySem.W.fnOf "_law_bag" "_law_bag" (defArgs s__law_bag) (defBody s__law_bag) (defScope s__law_bag) .none kV8 dc8 pm8 an8 cd8 ct8), sl8⟩) (c8 : PySem.W.codeIn K cd8 "_law_bag" = true) (k8 : PySem.W.keepIn K (.ref f8) = true)
    {f9 : Addr} {od9 an9 : Option Addr} {sl9 : Array (Option Value)} {oc9 kV9 dc9 pm9 cd9 ct9 : Value}
    (a9 : PySem.W.nsIn K mainGlobals "_law_pull" = some (some (.ref f9))) (l9 : K.lookup f9 = some ⟨oc9, od9, .func (PySem.W.fnOf "_law_pull" "_law_pull" (defArgs s__law_pull) (defBody s__law_pull) (defScope s__law_pull) .none kV9 dc9 pm9 an9 cd9 ct9), sl9⟩) (c9 : PySem.W.codeIn K cd9 "_law_pull" = true) (k9 : PySem.W.keepIn K (.ref f9) = true)
    {f10 : Addr} {od10 an10 : Option Addr} {sl10 : Array (Option Value)} {oc10 kV10 dc10 pm10 cd10 ct10 : Value}
    (a10 : PySem.W.nsIn K mainGlobals "_law_of" = some (some (.ref f10))) (l10 : K.lookup f10 = some ⟨oc10, od10, .func (PySem.W.fnOf "_law_of" "_law_of" (defArgs s__law_of) (defBody s__law_of) (defScope s__law_of) .none kV10 dc10 pm10 an10 cd10 ct10), sl10⟩) (c10 : PySem.W.codeIn K cd10 "_law_of" = true) (k10 : PySem.W.keepIn K (.ref f10) = true)
    {f11 : Addr} {od11 an11 : Option Addr} {sl11 : Array (Option Value)} {oc11 kV11 dc11 pm11 cd11 ct11 : Value}
    (a11 : PySem.W.nsIn K mainGlobals "_law_same" = some (some (.ref f11))) (l11 : K.lookup f11 = some ⟨oc11, od11, .func (PySem.W.fnOf "_law_same" "_law_same" (defArgs s__law_same) (defBody s__law_same) (defScope s__law_same) .none kV11 dc11 pm11 an11 cd11 ct11), sl11⟩) (c11 : PySem.W.codeIn K cd11 "_law_same" = true) (k11 : PySem.W.keepIn K (.ref f11) = true)
    {f12 : Addr} {od12 an12 : Option Addr} {sl12 : Array (Option Value)} {oc12 kV12 dc12 pm12 cd12 ct12 : Value}
    (a12 : PySem.W.nsIn K mainGlobals "_law_is_name" = some (some (.ref f12))) (l12 : K.lookup f12 = some ⟨oc12, od12, .func (PySem.W.fnOf "_law_is_name" "_law_is_name" (defArgs s__law_is_name) (defBody s__law_is_name) (defScope s__law_is_name) .none kV12 dc12 pm12 an12 cd12 ct12), sl12⟩) (c12 : PySem.W.codeIn K cd12 "_law_is_name" = true) (k12 : PySem.W.keepIn K (.ref f12) = true)
    {f13 : Addr} {od13 an13 : Option Addr} {sl13 : Array (Option Value)} {oc13 kV13 dc13 pm13 cd13 ct13 : Value}
    (a13 : PySem.W.nsIn K mainGlobals "_law_is_value" = some (some (.ref f13))) (l13 : K.lookup f13 = some ⟨oc13, od13, .func (PySem.W.fnOf "_law_is_value" "_law_is_value" (defArgs s__law_is_value) (defBody s__law_is_value) (defScope s__law_is_value) .none kV13 dc13 pm13 an13 cd13 ct13), sl13⟩) (c13 : PySem.W.codeIn K cd13 "_law_is_value" = true) (k13 : PySem.W.keepIn K (.ref f13) = true)
    {f14 : Addr} {od14 an14 : Option Addr} {sl14 : Array (Option Value)} {oc14 kV14 dc14 pm14 cd14 ct14 : Value}
    (a14 : PySem.W.nsIn K mainGlobals "_law_names" = some (some (.ref f14))) (l14 : K.lookup f14 = some ⟨oc14, od14, .func (PySem.W.fnOf "_law_names" "_law_names" (defArgs s__law_names) (defBody s__law_names) (defScope s__law_names) .none kV14 dc14 pm14 an14 cd14 ct14), sl14⟩) (c14 : PySem.W.codeIn K cd14 "_law_names" = true) (k14 : PySem.W.keepIn K (.ref f14) = true)
    {f15 : Addr} {od15 an15 : Option Addr} {sl15 : Array (Option Value)} {oc15 kV15 dc15 pm15 cd15 ct15 : Value}
    (a15 : PySem.W.nsIn K mainGlobals "_law_marks" = some (some (.ref f15))) (l15 : K.lookup f15 = some ⟨oc15, od15, .func (PySem.W.fnOf "_law_marks" "_law_marks" (defArgs s__law_marks) (defBody s__law_marks) (defScope s__law_marks) .none kV15 dc15 pm15 an15 cd15 ct15), sl15⟩) (c15 : PySem.W.codeIn K cd15 "_law_marks" = true) (k15 : PySem.W.keepIn K (.ref f15) = true)
    {f16 : Addr} {od16 an16 : Option Addr} {sl16 : Array (Option Value)} {oc16 kV16 dc16 pm16 cd16 ct16 : Value}
    (a16 : PySem.W.nsIn K mainGlobals "_law_fields" = some (some (.ref f16))) (l16 : K.lookup f16 = some ⟨oc16, od16, .func (PySem.W.fnOf "_law_fields" "_law_fields" (defArgs s__law_fields) (defBody s__law_fields) (defScope s__law_fields) .none kV16 dc16 pm16 an16 cd16 ct16), sl16⟩) (c16 : PySem.W.codeIn K cd16 "_law_fields" = true) (k16 : PySem.W.keepIn K (.ref f16) = true)
    {f17 : Addr} {od17 an17 : Option Addr} {sl17 : Array (Option Value)} {oc17 kV17 dc17 pm17 cd17 ct17 : Value}
    (a17 : PySem.W.nsIn K mainGlobals "_law_test" = some (some (.ref f17))) (l17 : K.lookup f17 = some ⟨oc17, od17, .func (PySem.W.fnOf "_law_test" "_law_test" (defArgs s__law_test) (defBody s__law_test) (defScope s__law_test) .none kV17 dc17 pm17 an17 cd17 ct17), sl17⟩) (c17 : PySem.W.codeIn K cd17 "_law_test" = true) (k17 : PySem.W.keepIn K (.ref f17) = true)
    {f18 : Addr} {od18 an18 : Option Addr} {sl18 : Array (Option Value)} {oc18 kV18 dc18 pm18 cd18 ct18 : Value}
    (a18 : PySem.W.nsIn K mainGlobals "_law_tree" = some (some (.ref f18))) (l18 : K.lookup f18 = some ⟨oc18, od18, .func (PySem.W.fnOf "_law_tree" "_law_tree" (defArgs s__law_tree) (defBody s__law_tree) (defScope s__law_tree) .none kV18 dc18 pm18 an18 cd18 ct18), sl18⟩) (c18 : PySem.W.codeIn K cd18 "_law_tree" = true) (k18 : PySem.W.keepIn K (.ref f18) = true)
    {f19 : Addr} {od19 an19 : Option Addr} {sl19 : Array (Option Value)} {oc19 kV19 dc19 pm19 cd19 ct19 : Value}
    (a19 : PySem.W.nsIn K mainGlobals "_law_parts" = some (some (.ref f19))) (l19 : K.lookup f19 = some ⟨oc19, od19, .func (PySem.W.fnOf "_law_parts" "_law_parts" (defArgs s__law_parts) (defBody s__law_parts) (defScope s__law_parts) .none kV19 dc19 pm19 an19 cd19 ct19), sl19⟩) (c19 : PySem.W.codeIn K cd19 "_law_parts" = true) (k19 : PySem.W.keepIn K (.ref f19) = true)
    {f20 : Addr} {od20 an20 : Option Addr} {sl20 : Array (Option Value)} {oc20 kV20 dc20 pm20 cd20 ct20 : Value}
    (a20 : PySem.W.nsIn K mainGlobals "_law_many" = some (some (.ref f20))) (l20 : K.lookup f20 = some ⟨oc20, od20, .func (PySem.W.fnOf "_law_many" "_law_many" (defArgs s__law_many) (defBody s__law_many) (defScope s__law_many) .none kV20 dc20 pm20 an20 cd20 ct20), sl20⟩) (c20 : PySem.W.codeIn K cd20 "_law_many" = true) (k20 : PySem.W.keepIn K (.ref f20) = true)
    {f21 : Addr} {od21 an21 : Option Addr} {sl21 : Array (Option Value)} {oc21 kV21 dc21 pm21 cd21 ct21 : Value}
    (a21 : PySem.W.nsIn K mainGlobals "_law_is_tree" = some (some (.ref f21))) (l21 : K.lookup f21 = some ⟨oc21, od21, .func (PySem.W.fnOf "_law_is_tree" "_law_is_tree" (defArgs s__law_is_tree) (defBody s__law_is_tree) (defScope s__law_is_tree) .none kV21 dc21 pm21 an21 cd21 ct21), sl21⟩) (c21 : PySem.W.codeIn K cd21 "_law_is_tree" = true) (k21 : PySem.W.keepIn K (.ref f21) = true)
    {f22 : Addr} {od22 an22 : Option Addr} {sl22 : Array (Option Value)} {oc22 kV22 dc22 pm22 cd22 ct22 : Value}
    (a22 : PySem.W.nsIn K mainGlobals "_law_bent_tree" = some (some (.ref f22))) (l22 : K.lookup f22 = some ⟨oc22, od22, .func (PySem.W.fnOf "_law_bent_tree" "_law_bent_tree" (defArgs s__law_bent_tree) (defBody s__law_bent_tree) (defScope s__law_bent_tree) .none kV22 dc22 pm22 an22 cd22 ct22), sl22⟩) (c22 : PySem.W.codeIn K cd22 "_law_bent_tree" = true) (k22 : PySem.W.keepIn K (.ref f22) = true)
    {f23 : Addr} {od23 an23 : Option Addr} {sl23 : Array (Option Value)} {oc23 kV23 dc23 pm23 cd23 ct23 : Value}
    (a23 : PySem.W.nsIn K mainGlobals "law" = some (some (.ref f23))) (l23 : K.lookup f23 = some ⟨oc23, od23, .func (PySem.W.fnOf "law" "law" (defArgs s_law) (defBody s_law) (defScope s_law) .none kV23 dc23 pm23 an23 cd23 ct23), sl23⟩) (c23 : PySem.W.codeIn K cd23 "law" = true) (k23 : PySem.W.keepIn K (.ref f23) = true)
    (z0 : PySem.W.nsIn K mainGlobals "abs" = some none)
    (z1 : PySem.W.nsIn K mainGlobals "all" = some none)
    (z2 : PySem.W.nsIn K mainGlobals "bool" = some none)
    (z3 : PySem.W.nsIn K mainGlobals "int" = some none)
    (z4 : PySem.W.nsIn K mainGlobals "isinstance" = some none)
    (z5 : PySem.W.nsIn K mainGlobals "len" = some none)
    (z6 : PySem.W.nsIn K mainGlobals "list" = some none)
    (z7 : PySem.W.nsIn K mainGlobals "max" = some none)
    (z8 : PySem.W.nsIn K mainGlobals "range" = some none)
    (z9 : PySem.W.nsIn K mainGlobals "str" = some none)
    (z10 : PySem.W.nsIn K mainGlobals "sum" = some none)
    (z11 : PySem.W.nsIn K mainGlobals "tuple" = some none)
    (z12 : PySem.W.nsIn K mainGlobals "zip" = some none)
    {t0 : Tok} (e0 : PySem.W.nsIn K mainGlobals "MAX_NAME" = some (some (.int 8 t0)))
    {t1 : Tok} (e1 : PySem.W.nsIn K mainGlobals "NAME_CHARACTERS" = some (some (.str "abcdefghijklmnopqrstuvwxyz" t1)))
    {t2 : Tok} (e2 : PySem.W.nsIn K mainGlobals "VALUE_CHARACTERS" = some (some (.str "abcdefghijklmnopqrstuvwxyz0123456789" t2)))
    {t3 : Tok} (e3 : PySem.W.nsIn K mainGlobals "MAX_SIZE" = some (some (.int 30 t3)))
    {t4 : Tok} (e4 : PySem.W.nsIn K mainGlobals "MAX_DEPTH" = some (some (.int 8 t4)))
    : ∃ fd : FuncData, (∀ (s : Shared) (v : Value), BindsTo s fd ⟨[v], []⟩ [("_law_script", v)]) ∧ ∀ base : Heap, K.In base → base.Ns mainGlobals mg → FnOk l.prog w K mg base CX0 60 fa fd ["_law_script"] (sp_law K) := by
  have e := hfa.symm.trans (PySem.W.mg_of X G a23)
  cases e
  have F0 := fun_mk (st := s_consists_of) l0 c0 k0
  have b0 := F0.binds (ps := ["text", "characters"]) fun _ _ _ _ _ _ us hl => match us, hl with | [_, _], _ => rfl
  have F1 := fun_mk (st := s_is_name) l1 c1 k1
  have b1 := F1.binds (ps := ["text"]) fun _ _ _ _ _ _ us hl => match us, hl with | [_], _ => rfl
  have F2 := fun_mk (st := s_is_value) l2 c2 k2
  have b2 := F2.binds (ps := ["text"]) fun _ _ _ _ _ _ us hl => match us, hl with | [_], _ => rfl
  have F3 := fun_mk (st := s_is_field_name) l3 c3 k3
  have b3 := F3.binds (ps := ["text"]) fun _ _ _ _ _ _ us hl => match us, hl with | [_], _ => rfl
  have F4 := fun_mk (st := s_has_form) l4 c4 k4
  have b4 := F4.binds (ps := ["thing"]) fun _ _ _ _ _ _ us hl => match us, hl with | [_], _ => rfl
  have F5 := fun_mk (st := s_is_test_of) l5 c5 k5
  have b5 := F5.binds (ps := ["field", "value"]) fun _ _ _ _ _ _ us hl => match us, hl with | [_, _], _ => rfl
  have F6 := fun_mk (st := s_parts_of) l6 c6 k6
  have b6 := F6.binds (ps := ["condition"]) fun _ _ _ _ _ _ us hl => match us, hl with | [_], _ => rfl
  have F7 := fun_mk (st := s_is_condition) l7 c7 k7
  have b7 := F7.binds (ps := ["thing"]) fun _ _ _ _ _ _ us hl => match us, hl with | [_], _ => rfl
  have q7 : KwB _ ["thing"] ["thing"] := kb_of F7 fun _ _ _ _ _ _ us hl => match us, hl with | [_], _ => rfl
  have F8 := fun_mk (st := s__law_bag) l8 c8 k8
  have b8 := F8.binds (ps := ["_law_script"]) fun _ _ _ _ _ _ us hl => match us, hl with | [_], _ => rfl
  have F9 := fun_mk (st := s__law_pull) l9 c9 k9
  have b9 := F9.binds (ps := ["_law_bag_here", "_law_sides"]) fun _ _ _ _ _ _ us hl => match us, hl with | [_, _], _ => rfl
  have F10 := fun_mk (st := s__law_of) l10 c10 k10
  have b10 := F10.binds (ps := ["_law_bag_here", "_law_some"]) fun _ _ _ _ _ _ us hl => match us, hl with | [_, _], _ => rfl
  have F11 := fun_mk (st := s__law_same) l11 c11 k11
  have b11 := F11.binds (ps := ["_law_found", "_law_due"]) fun _ _ _ _ _ _ us hl => match us, hl with | [_, _], _ => rfl
  have F12 := fun_mk (st := s__law_is_name) l12 c12 k12
  have b12 := F12.binds (ps := ["_law_text"]) fun _ _ _ _ _ _ us hl => match us, hl with | [_], _ => rfl
  have F13 := fun_mk (st := s__law_is_value) l13 c13 k13
  have b13 := F13.binds (ps := ["_law_text"]) fun _ _ _ _ _ _ us hl => match us, hl with | [_], _ => rfl
  have F14 := fun_mk (st := s__law_names) l14 c14 k14
  have b14 := F14.binds (ps := ["_law_bag_here", "_law_many_here"]) fun _ _ _ _ _ _ us hl => match us, hl with | [_, _], _ => rfl
  have F15 := fun_mk (st := s__law_marks) l15 c15 k15
  have b15 := F15.binds (ps := ["_law_bag_here", "_law_many_here"]) fun _ _ _ _ _ _ us hl => match us, hl with | [_, _], _ => rfl
  have F16 := fun_mk (st := s__law_fields) l16 c16 k16
  have b16 := F16.binds (ps := ["_law_bag_here", "_law_most"]) fun _ _ _ _ _ _ us hl => match us, hl with | [_, _], _ => rfl
  have F17 := fun_mk (st := s__law_test) l17 c17 k17
  have b17 := F17.binds (ps := ["_law_bag_here", "_law_fields_here"]) fun _ _ _ _ _ _ us hl => match us, hl with | [_, _], _ => rfl
  have F18 := fun_mk (st := s__law_tree) l18 c18 k18
  have b18 := F18.binds (ps := ["_law_bag_here", "_law_fields_here", "_law_deep"]) fun _ _ _ _ _ _ us hl => match us, hl with | [_, _, _], _ => rfl
  have F19 := fun_mk (st := s__law_parts) l19 c19 k19
  have b19 := F19.binds (ps := ["_law_tree_here"]) fun _ _ _ _ _ _ us hl => match us, hl with | [_], _ => rfl
  have F20 := fun_mk (st := s__law_many) l20 c20 k20
  have b20 := F20.binds (ps := ["_law_tree_here"]) fun _ _ _ _ _ _ us hl => match us, hl with | [_], _ => rfl
  have F21 := fun_mk (st := s__law_is_tree) l21 c21 k21
  have b21 := F21.binds (ps := ["_law_thing_z", "_law_room"]) fun _ _ _ _ _ _ us hl => match us, hl with | [_, _], _ => rfl
  have F22 := fun_mk (st := s__law_bent_tree) l22 c22 k22
  have b22 := F22.binds (ps := ["_law_bag_here", "_law_tree_here"]) fun _ _ _ _ _ _ us hl => match us, hl with | [_, _], _ => rfl
  have F23 := fun_mk (st := s_law) l23 c23 k23
  have T : Txt K mg := {
    m_abs := PySem.W.mg_none_of X G z0,
    m_all := PySem.W.mg_none_of X G z1,
    m_bool := PySem.W.mg_none_of X G z2,
    m_int := PySem.W.mg_none_of X G z3,
    m_isinstance := PySem.W.mg_none_of X G z4,
    m_len := PySem.W.mg_none_of X G z5,
    m_list := PySem.W.mg_none_of X G z6,
    m_max := PySem.W.mg_none_of X G z7,
    m_range := PySem.W.mg_none_of X G z8,
    m_str := PySem.W.mg_none_of X G z9,
    m_sum := PySem.W.mg_none_of X G z10,
    m_tuple := PySem.W.mg_none_of X G z11,
    m_zip := PySem.W.mg_none_of X G z12,
    c_MAX_NAME := ⟨_, PySem.W.mg_of X G e0, ⟨_, rfl⟩⟩,
    c_NAME_CHARACTERS := ⟨_, PySem.W.mg_of X G e1, ⟨_, rfl⟩⟩,
    c_VALUE_CHARACTERS := ⟨_, PySem.W.mg_of X G e2, ⟨_, rfl⟩⟩,
    c_MAX_SIZE := ⟨_, PySem.W.mg_of X G e3, ⟨_, rfl⟩⟩,
    c_MAX_DEPTH := ⟨_, PySem.W.mg_of X G e4, ⟨_, rfl⟩⟩,
    h_consists_of := ⟨_, _, F0, b0, PySem.W.mg_of X G a0⟩,
    h_is_name := ⟨_, _, F1, b1, PySem.W.mg_of X G a1⟩,
    h_is_value := ⟨_, _, F2, b2, PySem.W.mg_of X G a2⟩,
    h_is_field_name := ⟨_, _, F3, b3, PySem.W.mg_of X G a3⟩,
    h_has_form := ⟨_, _, F4, b4, PySem.W.mg_of X G a4⟩,
    h_is_test_of := ⟨_, _, F5, b5, PySem.W.mg_of X G a5⟩,
    h_parts_of := ⟨_, _, F6, b6, PySem.W.mg_of X G a6⟩,
    h_is_condition := ⟨_, _, F7, b7, PySem.W.mg_of X G a7, q7⟩,
    h__law_bag := ⟨_, _, F8, b8, PySem.W.mg_of X G a8⟩,
    h__law_pull := ⟨_, _, F9, b9, PySem.W.mg_of X G a9⟩,
    h__law_of := ⟨_, _, F10, b10, PySem.W.mg_of X G a10⟩,
    h__law_same := ⟨_, _, F11, b11, PySem.W.mg_of X G a11⟩,
    h__law_is_name := ⟨_, _, F12, b12, PySem.W.mg_of X G a12⟩,
    h__law_is_value := ⟨_, _, F13, b13, PySem.W.mg_of X G a13⟩,
    h__law_names := ⟨_, _, F14, b14, PySem.W.mg_of X G a14⟩,
    h__law_marks := ⟨_, _, F15, b15, PySem.W.mg_of X G a15⟩,
    h__law_fields := ⟨_, _, F16, b16, PySem.W.mg_of X G a16⟩,
    h__law_test := ⟨_, _, F17, b17, PySem.W.mg_of X G a17⟩,
    h__law_tree := ⟨_, _, F18, b18, PySem.W.mg_of X G a18⟩,
    h__law_parts := ⟨_, _, F19, b19, PySem.W.mg_of X G a19⟩,
    h__law_many := ⟨_, _, F20, b20, PySem.W.mg_of X G a20⟩,
    h__law_is_tree := ⟨_, _, F21, b21, PySem.W.mg_of X G a21⟩,
    h__law_bent_tree := ⟨_, _, F22, b22, PySem.W.mg_of X G a22⟩ }
  exact ⟨PySem.W.fnOf "law" "law" (defArgs s_law) (defBody s_law) (defScope s_law) .none kV23 dc23 pm23 an23 cd23 ct23, fun s v => .of_eq rfl, fun base _ _ => ok_law T F23⟩
end Hr
open PySem PySem.W PyProof.Rows
set_option maxRecDepth 100000 in
set_option maxHeartbeats 0 in
theorem PySem.Challenge.cw_hiddenrank_k06_conditions_recognized_holds : PySem.Challenge.rw_hiddenrank_k06_conditions_recognized.Holds := by
  w_on; o_law; k_head; (case hw => w_witness2)
  k_fill
  refine L2.walk_ofK (l := PySem.Challenge.rw_hiddenrank_k06_conditions_recognized) (n := 63) (k := 60) (x := "_law_script") (CX := L2.CX0) (sp := Hr.sp_law) rfl (by decide) rfl ⟨rfl, by decide, by decide⟩ (fun w h Y => PySem.W.kIn_of Y) ?F (fun _ _ a ns hl _ hS => ⟨a, ns, rfl, hS, hl, fun _ => rfl⟩) (fun _ _ _ _ h => h)
  case F =>
    intro w mg fa h KX G hmg
    refine' Hr.all_mk KX G hmg ?a0 ?l0 ?c0 ?k0 ?a1 ?l1 ?c1 ?k1 ?a2 ?l2 ?c2 ?k2 ?a3 ?l3 ?c3 ?k3 ?a4 ?l4 ?c4 ?k4 ?a5 ?l5 ?c5 ?k5 ?a6 ?l6 ?c6 ?k6 ?a7 ?l7 ?c7 ?k7 ?a8 ?l8 ?c8 ?k8 ?a9 ?l9 ?c9 ?k9 ?a10 ?l10 ?c10 ?k10 ?a11 ?l11 ?c11 ?k11 ?a12 ?l12 ?c12 ?k12 ?a13 ?l13 ?c13 ?k13 ?a14 ?l14 ?c14 ?k14 ?a15 ?l15 ?c15 ?k15 ?a16 ?l16 ?c16 ?k16 ?a17 ?l17 ?c17 ?k17 ?a18 ?l18 ?c18 ?k18 ?a19 ?l19 ?c19 ?k19 ?a20 ?l20 ?c20 ?k20 ?a21 ?l21 ?c21 ?k21 ?a22 ?l22 ?c22 ?k22 ?a23 ?l23 ?c23 ?k23 ?z0 ?z1 ?z2 ?z3 ?z4 ?z5 ?z6 ?z7 ?z8 ?z9 ?z10 ?z11 ?z12 ?e0 ?e1 ?e2 ?e3 ?e4
    (case a0 => k_is)
    (case l0 => k_is)
    (case c0 => k_is)
    (case k0 => k_is)
    (case a1 => k_is)
    (case l1 => k_is)
    (case c1 => k_is)
    (case k1 => k_is)
    (case a2 => k_is)
    (case l2 => k_is)
    (case c2 => k_is)
    (case k2 => k_is)
    (case a3 => k_is)
    (case l3 => k_is)
    (case c3 => k_is)
    (case k3 => k_is)
    (case a4 => k_is)
    (case l4 => k_is)
    (case c4 => k_is)
    (case k4 => k_is)
    (case a5 => k_is)
    (case l5 => k_is)
    (case c5 => k_is)
    (case k5 => k_is)
    (case a6 => k_is)
    (case l6 => k_is)
    (case c6 => k_is)
    (case k6 => k_is)
    (case a7 => k_is)
    (case l7 => k_is)
    (case c7 => k_is)
    (case k7 => k_is)
    (case a8 => k_is)
    (case l8 => k_is)
    (case c8 => k_is)
    (case k8 => k_is)
    (case a9 => k_is)
    (case l9 => k_is)
    (case c9 => k_is)
    (case k9 => k_is)
    (case a10 => k_is)
    (case l10 => k_is)
    (case c10 => k_is)
    (case k10 => k_is)
    (case a11 => k_is)
    (case l11 => k_is)
    (case c11 => k_is)
    (case k11 => k_is)
    (case a12 => k_is)
    (case l12 => k_is)
    (case c12 => k_is)
    (case k12 => k_is)
    (case a13 => k_is)
    (case l13 => k_is)
    (case c13 => k_is)
    (case k13 => k_is)
    (case a14 => k_is)
    (case l14 => k_is)
    (case c14 => k_is)
    (case k14 => k_is)
    (case a15 => k_is)
    (case l15 => k_is)
    (case c15 => k_is)
    (case k15 => k_is)
    (case a16 => k_is)
    (case l16 => k_is)
    (case c16 => k_is)
    (case k16 => k_is)
    (case a17 => k_is)
    (case l17 => k_is)
    (case c17 => k_is)
    (case k17 => k_is)
    (case a18 => k_is)
    (case l18 => k_is)
    (case c18 => k_is)
    (case k18 => k_is)
    (case a19 => k_is)
    (case l19 => k_is)
    (case c19 => k_is)
    (case k19 => k_is)
    (case a20 => k_is)
    (case l20 => k_is)
    (case c20 => k_is)
    (case k20 => k_is)
    (case a21 => k_is)
    (case l21 => k_is)
    (case c21 => k_is)
    (case k21 => k_is)
    (case a22 => k_is)
    (case l22 => k_is)
    (case c22 => k_is)
    (case k22 => k_is)
    (case a23 => k_is)
    (case l23 => k_is)
    (case c23 => k_is)
    (case k23 => k_is)
    (case z0 => k_is)
    (case z1 => k_is)
    (case z2 => k_is)
    (case z3 => k_is)
    (case z4 => k_is)
    (case z5 => k_is)
    (case z6 => k_is)
    (case z7 => k_is)
    (case z8 => k_is)
    (case z9 => k_is)
    (case z10 => k_is)
    (case z11 => k_is)
    (case z12 => k_is)
    (case e0 => k_is)
    (case e1 => k_is)
    (case e2 => k_is)
    (case e3 => k_is)
    (case e4 => k_is)
