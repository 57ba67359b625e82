
/-
  The program's store and the document's, side by side, each on its own memory, both for the same; what each call of either leaves.
-/
import Derived.Test.YtinhnnnehhlceaaGreatOTwoM
import Derived.Test.YtinhnnnehhlceaaGreatOLike
import Derived.Test.YtinhnnnehhlceaaGreatPkShow
import Derived.Test.YtinhnnnehhlceaaGreatOClone
import Derived.Test.YtinhnnnehhlceaaGreatORoom
import Derived.Test.YtinhnnnehhlceaaGreatPkKn
import Derived.Test.YtinhnnnehhlceaaGreatYSet
import Derived.Test.YtinhnnnehhlceaaGreatYMake
import Derived.Test.YtinhnnnehhlceaaGreatYFree
import Derived.Test.YtinhnnnehhlceaaGreatYRoom
import Derived.Test.YtinhnnnehhlceaaGreatYGet
import Derived.Test.YtinhnnnehhlceaaGreatYNames
namespace Go.Proofs.YtinhnnnehhlceaaGreat
open Go.ChangeShapes Go.WideShapes Go.ChangeAt Go.RowKit Go.Joins
set_option maxRecDepth 10000
set_option linter.unusedVariables false
set_option linter.unusedSimpArgs false

/-- The program's store, as the company of the document's memory. -/
def PSt (W : World) (m b z : Nat) (S : Sto) (A : Mm) : Mm → World → (Nat → Prop) → Prop := fun A' w G => SHas W m b (fun A w G => Two W w G m z A A') S A w G
theorem PSt.memR (W : World) (m b z : Nat) (S : Sto) (A : Mm) : MemR W z (PSt W m b z S A) where
  stay := fun A' => SHas.stay (Two.memL W m z A') b S A
  store := fun w G A' h hok l q v => by
    have h0 : SHas W m b (fun A w G => Two W w G m z A A') S A w G := h
    refine (h0.st.storeR hok l q v).mono fun e w' hd => ?_
    obtain ⟨he, h1, h2⟩ := hd
    refine ⟨he, ⟨?_, h1, h0.nb, h0.new⟩, fun k hg => h2 k (Or.inl hg)⟩
    have := h0.rep
    unfold SRep Blk at this ⊢
    rw [h2 b (Or.inr rfl)]; exact this
  load := fun w G A' h hok l => by
    have h0 : SHas W m b (fun A w G => Two W w G m z A A') S A w G := h
    refine (h0.st.loadR hok l).mono fun e w' hd => ?_
    obtain ⟨he, h1, h2⟩ := hd
    refine ⟨he, ⟨?_, h1, h0.nb, h0.new⟩, fun k hg => h2 k (Or.inl hg)⟩
    have := h0.rep
    unfold SRep Blk at this ⊢
    rw [h2 b (Or.inr rfl)]; exact this

/-- Where all lies: the memories, the stores, the document's frames. -/
structure Pl where
  m : Nat
  b : Nat
  z : Nat
  y : Nat
  f : Nat
  g : Nat
/-- Both stores: the program's stands for S on A, the document's for S' on A'. -/
def PP (W : World) (P : Pl) (S : Sto) (A : Mm) (S' : Sto) (K : Nat → En) (A' : Mm) : World → (Nat → Prop) → Prop := YHas W P.z P.y P.f P.g (PSt W P.m P.b P.z S A) S' K A'
section
variable {W w : World} {P : Pl} {S S' : Sto} {K : Nat → En} {A A' : Mm} {G : Nat → Prop}
theorem PP.stay (W : World) (P : Pl) (S : Sto) (A : Mm) (S' : Sto) (K : Nat → En) (A' : Mm) : Stay W (PP W P S A S' K A') := YHas.stay (PSt.memR W P.m P.b P.z S A) P.y P.f P.g S' K A'
theorem PP.left (h : PP W P S A S' K A' w G) {S1 : Sto} {A1 : Mm} {v : Value} {e : Ending} {w' : World} (hd : Done (SHas W P.m P.b (fun A w G => Two W w G P.m P.z A A') S1 A1) w (fun k => G k ∨ k = P.y ∨ k = P.f ∨ k = P.g) v e w') : Done (PP W P S1 A1 S' K A') w G v e w' := YHas.under (St' := PSt W P.m P.b P.z S1 A1) h hd
theorem PP.sh (h : PP W P S A S' K A' w G) : SHas W P.m P.b (fun A w G => Two W w G P.m P.z A A') S A w (fun k => G k ∨ k = P.y ∨ k = P.f ∨ k = P.g) := h.st
theorem PP.srep (h : PP W P S A S' K A' w G) : SRep P.m S w P.b := h.sh.rep
theorem PP.quiet (h : PP W P S A S' K A' w G) {v : Value} {w' : World} (hk : Keeps (fun _ => False) w w') : Done (PP W P S A S' K A') w G v (.returned v) w' :=
  ⟨rfl, (PP.stay W P S A S' K A').bl _ _ _ h hk, fun k hg => hk.block k ((PP.stay W P S A S' K A').lt _ _ h k hg) id⟩
theorem PP.setL (h : PP W P S A S' K A' w G) (hS : S.ok) (hA : A.ok 800) (x q v : Int) (hv : InU v) : Calls Tryz.prog 19 #[.pointer (some ⟨P.b, 0, none⟩), .int .i64 x, .int .i64 q, .int .u64 v] w (Done (PP W P (S.setS A x q v) (S.setM A x q v) S' K A') w G (.int .i64 (S.setE A x q v))) :=
  (set_any (Two.memL W P.m P.z A') h.sh hS hA x q v hv).mono fun e w' hd => h.left hd
theorem PP.setR (h : PP W P S A S' K A' w G) (hm : Mks S' K) (hS : S'.ok) (hA : A'.ok 800) (x q v : Int) (hv : InU v) : Calls Tryz.prog 20 #[.pointer (some ⟨P.y, 0, none⟩), .int .i64 x, .int .i64 q, .int .u64 v] w (Done (PP W P S A (S'.setS A' x q v) K (S'.setM A' x q v)) w G (.int .i64 (S'.setE A' x q v))) :=
  yset_any (PSt.memR W P.m P.b P.z S A) h hm hS hA x q v hv
theorem PP.makeL (h : PP W P S A S' K A' w G) (hS : S.ok) (hA : A.ok 900) (x : Int) : Calls Tryz.prog 21 #[.pointer (some ⟨P.b, 0, none⟩), .int .i64 x] w (Done (PP W P (S.makeS A x) (S.makeM A x) S' K A') w G (.tuple #[.int .i64 (S.makeI A x), .int .i64 (S.makeE A x)])) :=
  (make_any (Two.memL W P.m P.z A') h.sh hS hA x).mono fun e w' hd => h.left hd
theorem PP.makeR (h : PP W P S A S' K A' w G) (hS : S'.ok) (hA : A'.ok 900) (x : Int) : Calls Tryz.prog 22 #[.pointer (some ⟨P.y, 0, none⟩), .int .i64 x] w (Done (PP W P S A (S'.makeS A' x) K (S'.makeM A' x)) w G (.tuple #[.int .i64 (S'.makeI A' x), .int .i64 (S'.makeE A' x)])) :=
  ymake_any (PSt.memR W P.m P.b P.z S A) h hS hA x
theorem PP.endL (h : PP W P S A S' K A' w G) (hS : S.ok) (x : Int) : Calls Tryz.prog 23 #[.pointer (some ⟨P.b, 0, none⟩), .int .i64 x] w (Done (PP W P (S.endS x) A S' K A') w G (.int .i64 (S.findE x))) :=
  (end_obj (Two.memL W P.m P.z A') h.sh hS x).mono fun e w' hd => h.left hd
theorem PP.endR (h : PP W P S A S' K A' w G) (hm : Mks S' K) (hS : S'.ok) (hl : ∀ i, i < 49 → FIn64 (S'.w i).l) (x : Int) : Calls Tryz.prog 24 #[.pointer (some ⟨P.y, 0, none⟩), .int .i64 x] w (Done (PP W P S A (S'.endS x) K A') w G (.int .i64 (S'.findE x))) :=
  yend_any (PSt.memR W P.m P.b P.z S A) h hm hS hl x
theorem PP.markL (h : PP W P S A S' K A' w G) : Calls Tryz.prog 56 #[.pointer (some ⟨P.b, 0, none⟩)] w (Done (PP W P S.markS A S' K A') w G (.int .i64 S.markE)) :=
  (mark_obj (Two.memL W P.m P.z A') h.sh).mono fun e w' hd => h.left hd
theorem PP.markR (h : PP W P S A S' K A' w G) : Calls Tryz.prog 87 #[.pointer (some ⟨P.y, 0, none⟩)] w (Done (PP W P S A S'.markS (S'.kept K) A') w G (.int .i64 S'.markE)) :=
  ymark_any (PSt.memR W P.m P.b P.z S A) h
theorem PP.commitL (h : PP W P S A S' K A' w G) (hS : S.ok) (d : Nat → Int) : Calls Tryz.prog 107 #[.pointer (some ⟨P.b, 0, none⟩), .agg (dirV d)] w (Done (PP W P (S.commitS d) A S' K A') w G (.int .i64 S.doneE)) :=
  (commit_any (Two.memL W P.m P.z A') h.sh hS d).mono fun e w' hd => h.left hd
theorem PP.commitR (h : PP W P S A S' K A' w G) (hm : Mks S' K) (hS : S'.ok) (d : Nat → Int) : Calls Tryz.prog 108 #[.pointer (some ⟨P.y, 0, none⟩), .agg (dirV d)] w (Done (PP W P S A (S'.commitS d) K A') w G (.int .i64 S'.doneE)) :=
  ycommit_any (PSt.memR W P.m P.b P.z S A) h hm hS.1 d
theorem PP.abortL (h : PP W P S A S' K A' w G) (hS : S.ok) : Calls Tryz.prog 89 #[.pointer (some ⟨P.b, 0, none⟩)] w (Done (PP W P S.abortS A S' K A') w G (.int .i64 S.doneE)) :=
  (abort_any (Two.memL W P.m P.z A') h.sh hS).mono fun e w' hd => h.left hd
theorem PP.abortR (h : PP W P S A S' K A' w G) (hS : S'.ok) : Calls Tryz.prog 91 #[.pointer (some ⟨P.y, 0, none⟩)] w (Done (PP W P S A S'.abortS K A') w G (.int .i64 S'.doneE)) :=
  yabort_any (PSt.memR W P.m P.b P.z S A) h hS.1
theorem PP.getL (h : PP W P S A S' K A' w G) (hn : A.n ≤ 1024) (x : Int) : Calls Tryz.prog 41 #[.pointer (some ⟨P.b, 0, none⟩), .int .i64 x] w (Done (PP W P S A S' K A') w G (getT S A x)) :=
  (get_any (Two.memL W P.m P.z A') h.sh hn x).mono fun e w' hd => h.left hd
theorem PP.getR (h : PP W P S A S' K A' w G) (hA : A'.ok 1000) (x : Int) : Calls Tryz.prog 58 #[.pointer (some ⟨P.y, 0, none⟩), .int .i64 x] w (Done (PP W P S A S' K A') w G (getT S' A' x)) :=
  yget_any (PSt.memR W P.m P.b P.z S A) h hA x
theorem PP.takeL (h : PP W P S A S' K A' w G) (hS : S.ok) : Calls Tryz.prog 54 #[.pointer (some ⟨P.b, 0, none⟩)] w (Done (PP W P S.took A S' K A') w G (.tuple #[.int .i64 S.F.allocV, .int .i64 S.F.allocE])) :=
  (take_obj (Two.memL W P.m P.z A') h.sh hS).mono fun e w' hd => h.left hd
theorem PP.takeR (h : PP W P S A S' K A' w G) (hS : S'.ok) : Calls Tryz.prog 55 #[.pointer (some ⟨P.f, 0, none⟩)] w (Done (PP W P S A S'.took K A') w G (.tuple #[.int .i64 S'.F.allocV, .int .i64 S'.F.allocE])) :=
  (rfalloc_any h.fr hS.1).mono fun e w' hw => YHas.went (PSt.memR W P.m P.b P.z S A) h hw
theorem PP.roomL (h : PP W P S A S' K A' w G) (hS : S.ok) (a : Option Addr) (l : List Int) (cap : Nat) (hl : LiesI w a l) (hn : l.length ≤ 9223372036854775807) (more : Int) (hm : more ≤ 9223372036854775807) : Calls Tryz.prog 109 #[.pointer (some ⟨P.b, 0, none⟩), .slice a l.length cap, .int .i64 more] w (Done (PP W P S A S' K A') w G (.bool (S.roomB l more))) :=
  (room_any h.srep hS a l cap hl hn more hm).mono fun e w' hd => by
    obtain ⟨rfl, hb⟩ := hd
    exact h.quiet (Keeps.of_below hb)
theorem PP.roomR (h : PP W P S A S' K A' w G) (hm : Mks S' K) (hS : S'.ok) (a : Option Addr) (l : List Int) (cap : Nat) (hl : LiesI w a l) (hn : l.length < 100000) (hcap : l.length ≤ cap) (more : Int) (hmr : more ≤ 9223372036854775807) : Calls Tryz.prog 110 #[.pointer (some ⟨P.y, 0, none⟩), .slice a l.length cap, .int .i64 more] w (Done (PP W P S A S' K A') w G (.bool (S'.roomB l more))) :=
  (yroom_any h.rep hm h.fr hS.1 a l cap hl hn hcap more hmr).mono fun e w' hd => by
    obtain ⟨rfl, hb⟩ := hd
    exact h.quiet hb
theorem PP.namesL (h : PP W P S A S' K A' w G) (c : Int) (hc : InU c) : Calls Tryz.prog 59 #[.pointer (some ⟨P.b, 0, none⟩), .int .u64 c] w (Done (PP W P S A S' K A') w G (.tuple #[.int .i64 (S.nameI c), .int .i64 (S.nameE c)])) :=
  (onames_any h.srep c hc.1 hc.2).mono fun e w' hd => by
    obtain ⟨rfl, hb⟩ := hd
    exact h.quiet (Keeps.of_below hb)
theorem PP.namesR (h : PP W P S A S' K A' w G) (c : Int) (hc : InU c) : Calls Tryz.prog 60 #[.pointer (some ⟨P.y, 0, none⟩), .int .u64 c] w (Done (PP W P S A S' K A') w G (.tuple #[.int .i64 (S'.nameI c), .int .i64 (S'.nameE c)])) :=
  (ynames_any h.rep c hc.1 hc.2).mono fun e w' hd => by
    obtain ⟨rfl, hb⟩ := hd
    exact h.quiet (Keeps.of_below hb)
theorem PP.nextL (h : PP W P S A S' K A' w G) (c : Int) : Calls Tryz.prog 61 #[.pointer (some ⟨P.b, 0, none⟩), .int .i64 c] w (Done (PP W P S A S' K A') w G (nextT S c)) :=
  (next_any h.srep c).mono fun e w' hd => by
    obtain ⟨rfl, hb⟩ := hd
    exact h.quiet (Keeps.of_below hb)
theorem PP.nextR (h : PP W P S A S' K A' w G) (c : Int) : Calls Tryz.prog 62 #[.pointer (some ⟨P.y, 0, none⟩), .int .i64 c] w (Done (PP W P S A S' K A') w G (nextT S' c)) :=
  (ynext_any h.rep c).mono fun e w' hd => by
    obtain ⟨rfl, hb⟩ := hd
    exact h.quiet hb
theorem PP.like (h : PP W P S A S K A' w G) (hS : S.ok) (hm : Mks S K) : Calls Tryz.prog 63 #[.pointer (some ⟨P.b, 0, none⟩), .pointer (some ⟨P.y, 0, none⟩)] w (Done (PP W P S A S K A') w G (.bool true)) :=
  (like_any h.srep hS.1 h.rep h.fr hm.1).mono fun e w' hd => by
    obtain ⟨rfl, hb⟩ := hd
    exact h.quiet (Keeps.of_below hb)
end

/-! ### what stays true -/
def LinIn (S : Sto) : Prop := ∀ i, i < 49 → FIn64 (S.w i).l
structure Fine (S : Sto) (K : Nat → En) (A : Mm) (B N : Nat) : Prop where
  ok : S.ok
  mks : Mks S K
  li : LinIn S
  am : A.ok B
  an : A.n = N
theorem allocV_in {F : Fr} (h : F.ok) : FIn64 F.allocV := by
  unfold Fr.allocV
  split
  · rename_i i hi
    have h1 := first_spec hi
    have h2 := h.2.1
    exact ⟨by omega, by omega⟩
  · exact ⟨by decide, by decide⟩
theorem set_keeps (S : Sto) (A : Mm) (x q v : Int) : (S.setS A x q v).is = S.is ∧ (S.setS A x q v).k = S.k := by
  unfold Sto.setS
  repeat' split
  all_goals exact ⟨rfl, rfl⟩
theorem make_keeps (S : Sto) (A : Mm) (x : Int) : (S.makeS A x).is = S.is ∧ (S.makeS A x).k = S.k := by
  unfold Sto.makeS
  repeat' split
  all_goals exact ⟨rfl, rfl⟩
theorem end_keeps (S : Sto) (x : Int) : (S.endS x).is = S.is ∧ (S.endS x).k = S.k := by
  unfold Sto.endS
  split
  all_goals exact ⟨rfl, rfl⟩
theorem mks_of {S T : Sto} {K : Nat → En} (h : Mks S K) (e : T.is = S.is ∧ T.k = S.k) : Mks T K := by
  obtain ⟨e1, e2⟩ := e
  exact ⟨fun q => by rw [e2]; exact h.1 (e1 ▸ q), fun q => by rw [e2]; exact h.2 (e1 ▸ q)⟩
section
variable {S : Sto} {K : Nat → En} {A : Mm} {B N : Nat}
theorem Fine.mono (h : Fine S K A B N) {B' : Nat} (hB : B ≤ B') : Fine S K A B' N := ⟨h.ok, h.mks, h.li, ok_mono h.am hB, h.an⟩
theorem Fine.set (h : Fine S K A B N) (x q v : Int) (hv : InU v) : Fine (S.setS A x q v) K (S.setM A x q v) (B + 8) N :=
  ⟨setS_ok h.ok A x q v, mks_of h.mks (set_keeps S A x q v), fun i hi => by
    unfold Sto.setS
    repeat' split
    all_goals first
      | exact h.li i hi
      | (show FIn64 (upd S.w _ _ i).l
         unfold upd
         split
         · exact allocV_in h.ok.1
         · exact h.li i hi), setM_ok h.am x q v hv, by rw [setM_n]; exact h.an⟩
theorem Fine.make (h : Fine S K A B N) (x : Int) : Fine (S.makeS A x) K (S.makeM A x) (B + 8) N :=
  ⟨makeS_ok h.ok A x, mks_of h.mks (make_keeps S A x), fun i hi => by
    unfold Sto.makeS
    repeat' split
    all_goals first
      | exact h.li i hi
      | (show FIn64 (upd S.w _ _ i).l
         unfold upd
         split
         · exact allocV_in h.ok.1
         · exact h.li i hi), makeM_ok h.am x, by rw [makeM_n]; exact h.an⟩
theorem endV_l (x : En) (h : FIn64 x.l) : FIn64 (endV x).l := by
  unfold endV
  repeat' split
  all_goals first | exact h | (show FIn64 0; exact ⟨by decide, by decide⟩)
theorem Fine.end_ (h : Fine S K A B N) (x : Int) : Fine (S.endS x) K A B N :=
  ⟨endS_ok h.ok x, mks_of h.mks (end_keeps S x), fun i hi => by
    unfold Sto.endS
    split
    · rename_i hf
      show FIn64 (upd S.w _ _ i).l
      unfold upd
      split
      · have := findE_ok hf
        exact endV_l _ (h.li _ (by omega))
      · exact h.li i hi
    · exact h.li i hi, h.am, h.an⟩
theorem Fine.mark (h : Fine S K A B N) : Fine S.markS (S.kept K) A B N := by
  refine ⟨markS_ok h.ok, ?_, ?_, h.am, h.an⟩
  · unfold Sto.markS Sto.kept
    cases his : S.is with
    | true => simp only [if_true]; exact h.mks
    | false => exact ⟨fun _ => rfl, fun q => by cases q⟩
  · intro i hi
    unfold Sto.markS
    split
    · exact h.li i hi
    · exact h.li i hi
theorem Fine.abort (h : Fine S K A B N) : Fine S.abortS K A B N := by
  refine ⟨abortS_ok h.ok, ?_, ?_, h.am, h.an⟩
  · unfold Sto.abortS
    split
    · exact ⟨fun q => (by cases q), fun _ => rfl⟩
    · exact h.mks
  · intro i hi
    unfold Sto.abortS
    split
    · exact h.li i hi
    · exact h.li i hi
theorem Fine.commit (h : Fine S K A B N) (d : Nat → Int) : Fine (S.commitS d) K A B N := by
  refine ⟨commitS_ok h.ok d, ?_, ?_, h.am, h.an⟩
  · unfold Sto.commitS
    split
    · exact ⟨fun q => (by cases q), fun _ => rfl⟩
    · exact h.mks
  · intro i hi
    unfold Sto.commitS
    split
    · exact h.li i hi
    · exact h.li i hi
theorem Fine.took (h : Fine S K A B N) : Fine S.took K A B N := ⟨took_ok h.ok, h.mks, h.li, h.am, h.an⟩
end

end Go.Proofs.YtinhnnnehhlceaaGreat
