import PyProof.Rows.All
import Wide.All
import OpenK.AllK
import Wide.FinOn
import PyProof.EqAt
import PyProof.EqKinds
import PyProof.TupleCall
import KE.BitLaws
import Open.SpecLaws
import KE.OsHead
import KE.OsGo
import PyProof.Rows.SortShellAny
import PySem.Challenge.RW_ropedparty_s01_answers
set_option Elab.async false
set_option linter.all false
set_option maxRecDepth 100000
set_option maxHeartbeats 8000000
namespace L2
open PySem PySem.Spec PyProof.Rows
def inClass (s:Stmt) (j:Nat):Stmt:=match s with
 | .ClassDef _ _ _ body _ _ _ _ _ _ _=>body.getD j (.Pass ⟨0,0,0,0⟩)
 |_=>.Pass ⟨0,0,0,0⟩
def defArgs (s:Stmt):Arguments:=match s with
 | .FunctionDef _ a _ _ _ _ _ _ _ _=>a
 |_=>{ posonlyargs:=[],args:=[],vararg:=none,kwonlyargs:=[],kw_defaults:=[],kwarg:=none,defaults:=[] }
def defBody (s:Stmt):List Stmt:=match s with
 | .FunctionDef _ _ b _ _ _ _ _ _ _=>b
 |_=>[]
def defScope (s:Stmt):Scope:=match s with
 | .FunctionDef _ _ _ _ _ _ sc _ _ _=>sc
 |_=>{ kind:=.function,names:=[],isGenerator:=false,isCoroutine:=false }
end L2
namespace Rp
open PySem PySem.W PyProof.Rows L2
abbrev prg:Program:=PySem.Challenge.pw_ropedparty_s01_answers
def top (i:Nat):Stmt:=prg.main.body.getD i (.Pass ⟨0,0,0,0⟩)
end Rp
namespace Hd
open PySem PySem.W PyProof.Rows L2 Rp
noncomputable section
abbrev cp:Str:="/claim/cut.py"
abbrev I (n:Nat):Value:=.int n 0
abbrev ob (t:String) (d:Option Addr) (x:Data) (a:Array (Option Value)):Obj:=⟨.type t,d,x,a⟩
abbrev tp (a:Array Value):Obj:=⟨.type "tuple",none,.seq a,#[]⟩
abbrev fl (a:Array Value):Obj:=⟨.none,none,.fields a,#[]⟩
abbrev de (P:Params) (x:Str) (t:Nat) (v:Value):DictEntry:=⟨PyData.keyHash P x,.str x t,v⟩
def lo (st:Stmt):List Str:=(defScope st).names.filterMap fun p=>match p.2 with | .local=>some p.1 | _=>none
def nm:List Str→Nat→List Value | [],_=>[] | x::r,t=>.str x t::nm r (t + 1)
def tm (x q:Str) (st:Stmt):Obj:=⟨.none,none,.func { fnOf x q (defArgs st) (defBody st) (defScope st) .none .none .none .none none .none .none with globals:=0 },#[]⟩
def fo (x q:Str) (st:Stmt) (c:Addr) (m:Value):Obj:=⟨.type "function",none,.func (fnOf x q (defArgs st) (defBody st) (defScope st) .none .none .none m none (.ref c) .none),#[]⟩
def cd (x q:Str) (st:Stmt) (ln b t n:Nat) (u v y:Value):Obj:=ob "code" none (.fields #[.str x t,.str q (t + 1),.str cp (t + 2),I ln,I (defArgs st).args.length,I 0,I 0,I 3,.ref b,.bool true,I 181,.ref (b + 1),.none,u,v,y,I n,I ln,.str cp (n + 1)]) #[]
def c7 (x q:Str) (st:Stmt) (ln b t:Nat):Obj:=cd x q st ln b t (t + 3 + (lo st).length) (.ref (b + 2)) (.ref (b + 3)) (.ref (b + 4))
def c5 (x q:Str) (st:Stmt) (ln b t:Nat):Obj:=cd x q st ln b t (t + 3) .none .none (.ref (b + 2))
def d7 (x q:Str) (st:Stmt) (ln b t:Nat) (m:Value):List Obj:=[tp #[],fl #[],tp ⟨nm (lo st) (t + 3)⟩,tp #[],tm x q st,c7 x q st ln b t,fo x q st (b + 5) m]
def d5 (x q:Str) (st:Stmt) (ln b t:Nat) (m:Value):List Obj:=[tp #[],fl #[],tm x q st,c5 x q st ln b t,fo x q st (b + 3) m]
abbrev m0:Value:=.str "ropedparty.hidden" 187
abbrev m1:Value:=.str "ropedparty.crossing" 275
abbrev m2:Value:=.str "ropedparty.glacier" 392
abbrev m3:Value:=.str "ropedparty.probes" 526
abbrev m4:Value:=.str "ropedparty.ways" 630
abbrev m5:Value:=.str "ropedparty.crevasses" 724
def x3 (P:Params):Obj:=ob "dict" none (.dict #[de P "__name__" 165 (.str "ropedparty.crevasses" 724),de P "__doc__" 166 .none,de P "__package__" 167 .none,de P "__loader__" 168 (.builtin "__main__.__loader__#opaque"),de P "__spec__" 169 .none,de P "__annotations__" 170 (.ref 6),de P "__builtins__" 171 (.ref 4),de P "__file__" 173 (.str "/claim/cut.py" 172),de P "__cached__" 174 .none,de P "crevasse" 199 (.ref 21),de P "crevasses" 213 (.ref 28),de P "hidden_fields" 229 (.ref 35),de P "agreeing" 235 (.ref 40),de P "ever_holes" 244 (.ref 47),de P "holes" 254 (.ref 54),de P "hole_counts" 265 (.ref 61),de P "cells_number" 274 (.ref 68),de P "bit_counts" 285 (.ref 75),de P "hole_places" 296 (.ref 82),de P "first_fields" 308 (.ref 89),de P "clear_fields" 314 (.ref 94),de P "Crossing" 391 (.ref 137),de P "FIRM" 395 (.int 0 394),de P "HOLE" 397 (.int 1 396),de P "UNKNOWN" 399 (.int 2 398),de P "Glacier" 525 (.ref 226),de P "MOST_PROBES" 529 (.int 3 528),de P "fields_with_hole" 541 (.ref 237),de P "fields_not_clear" 551 (.ref 244),de P "cover_from" 565 (.ref 251),de P "least_cover" 571 (.ref 256),de P "is_settled" 580 (.ref 263),de P "is_enough" 590 (.ref 270),de P "first_probe" 603 (.ref 277),de P "least_plan" 617 (.ref 284),de P "best_split" 629 (.ref 291),de P "LONGEST_WAY" 633 (.int 12 632),de P "STEPS" 656 (.ref 300),de P "neighbour" 668 (.ref 307),de P "leads_on" 674 (.ref 312),de P "is_way" 680 (.ref 317),de P "distances" 696 (.ref 324),de P "least_direction" 708 (.ref 331),de P "shortest_way" 723 (.ref 338),de P "OUT_OF_RANGE" 728 (.int (-1) 727),de P "NOT_THERE" 731 (.int (-4) 730),de P "FOUND_ALREADY" 734 (.int (-5) 733),de P "NONE_AGREES" 737 (.int (-6) 736),de P "TOO_MANY" 740 (.int (-8) 739),de P "NONE_THERE" 743 (.int (-9) 742),de P "LAST_WORLD" 745 (.int 100000 744),de P "MOST_MEMBERS" 747 (.int 9 746),de P "MOST_SPACING" 749 (.int 6 748),de P "within" 755 (.ref 343),de P "is_field" 762 (.ref 350),de P "answer_field" 770 (.ref 357),de P "is_find" 778 (.ref 364),de P "answer_found" 788 (.ref 371),de P "answer_undo" 797 (.ref 378),de P "answer_finds" 808 (.ref 385),de P "answer_count" 816 (.ref 392),de P "answer_cell" 827 (.ref 399),de P "answer_map" 836 (.ref 406),de P "answer_world" 846 (.ref 413),de P "answer_way" 857 (.ref 420),de P "answer_look" 869 (.ref 427),de P "answer_rope" 881 (.ref 434),de P "answer_fewest" 892 (.ref 441),de P "answer_spacing" 903 (.ref 448),de P "answer_cover" 913 (.ref 455),de P "answer_plan" 923 (.ref 462),de P "answer_split" 932 (.ref 469),de P "answer_suppose" 941 (.ref 476),de P "answer_form" 949 (.ref 483),de P "CALLS" 986 (.ref 484),de P "WAY_CALLS" 1011 (.ref 497),de P "answer_on_way" 1024 (.ref 516),de P "answers" 1039 (.ref 523)] 78) #[]
def x13 (P:Params):Obj:=ob "code" none (.fields #[.str "<module>" 182,.str "<module>" 183,.str "/claim/cut.py" 184,I 1,I 0,I 0,I 0,I 0,.ref 11,.bool false,I 181,.ref 12,.none,.none,.none,.none,I 185,I 1,.str "/claim/cut.py" 186]) #[]
def x14 (P:Params):Obj:=ob "frame" none .plain #[some (.ref 13),some (.ref 3),some (.ref 3),none,some (.str "__main__" 164),none,some (.ref 0)]
def x135 (P:Params):Obj:=tp #[.str "firsts" 381,.str "set_bits" 382,.str "way_length" 383]
def x136 (P:Params):Obj:=ob "dict" none (.dict #[de P "__module__" 322 (.str "ropedparty.crossing" 275),de P "__firstlineno__" 326 (.int 74 325),de P "__init__" 335 (.ref 108),de P "most_holes" 341 (.ref 113),de P "standing" 354 (.ref 120),de P "first_fall" 370 (.ref 127),de P "is_safe" 380 (.ref 134),de P "__static_attributes__" 384 (.ref 135),de P "__dict__" 386 (.ref 138),de P "__weakref__" 388 (.ref 139),de P "__doc__" 389 .none] 4) #[]
def x137 (P:Params):Obj:=ob "type" none (.cls (ClassData.mk "Crossing" [.type "object"] [.ref 137,.type "object"] 136 "Crossing" true [] [] false none false)) #[none,none,some (.str "Crossing" 315),some (.str "Crossing" 323),some (.builtin "object.__new__"),some (.bool true)]
def x138 (P:Params):Obj:=ob "getset_descriptor" none (.fields #[.str "__dict__" 385,.ref 137,.builtin "function.__dict__",.builtin "function.__dict__#set"]) #[]
def x139 (P:Params):Obj:=ob "getset_descriptor" none (.fields #[.str "__weakref__" 387,.ref 137,.builtin "ExceptionGroup.__weakref__",.none]) #[]
def x224 (P:Params):Obj:=tp #[.str "counts" 509,.str "finds" 510,.str "height" 511,.str "hidden" 512,.str "least" 513,.str "many" 514,.str "most" 515,.str "possible" 516,.str "width" 517]
def x225 (P:Params):Obj:=ob "dict" none (.dict #[de P "__module__" 407 (.str "ropedparty.glacier" 392),de P "__firstlineno__" 411 (.int 108 410),de P "__init__" 418 (.ref 155),de P "lay" 430 (.ref 162),de P "keep" 438 (.ref 169),de P "cell_count" 445 (.ref 176),de P "has_cell" 453 (.ref 183),de P "cells_to_probe" 459 (.ref 188),de P "add_find" 468 (.ref 195),de P "drop_find" 479 (.ref 202),de P "counted_holes" 486 (.ref 209),de P "knowledge" 498 (.ref 216),de P "surely_firm" 508 (.ref 223),de P "__static_attributes__" 518 (.ref 224),de P "__dict__" 520 (.ref 227),de P "__weakref__" 522 (.ref 228),de P "__doc__" 523 .none] 4) #[]
def x226 (P:Params):Obj:=ob "type" none (.cls (ClassData.mk "Glacier" [.type "object"] [.ref 226,.type "object"] 225 "Glacier" true [] [] false none false)) #[none,none,some (.str "Glacier" 400),some (.str "Glacier" 408),some (.builtin "object.__new__"),some (.bool true)]
def x227 (P:Params):Obj:=ob "getset_descriptor" none (.fields #[.str "__dict__" 519,.ref 226,.builtin "function.__dict__",.builtin "function.__dict__#set"]) #[]
def x228 (P:Params):Obj:=ob "getset_descriptor" none (.fields #[.str "__weakref__" 521,.ref 226,.builtin "ExceptionGroup.__weakref__",.none]) #[]
def x292 (P:Params):Obj:=tp #[.int 0 634,.int (-1) 636]
def x293 (P:Params):Obj:=tp #[.int 1 637,.int (-1) 639]
def x294 (P:Params):Obj:=tp #[.int 1 640,.int 0 641]
def x295 (P:Params):Obj:=tp #[.int 1 642,.int 1 643]
def x296 (P:Params):Obj:=tp #[.int 0 644,.int 1 645]
def x297 (P:Params):Obj:=tp #[.int (-1) 647,.int 1 648]
def x298 (P:Params):Obj:=tp #[.int (-1) 650,.int 0 651]
def x299 (P:Params):Obj:=tp #[.int (-1) 653,.int (-1) 655]
def x300 (P:Params):Obj:=tp #[.ref 292,.ref 293,.ref 294,.ref 295,.ref 296,.ref 297,.ref 298,.ref 299]
def x484 (P:Params):Obj:=ob "dict" none (.dict #[DictEntry.mk 0 (.int 0 950) (.ref 485),DictEntry.mk 1 (.int 1 952) (.ref 486),DictEntry.mk 2 (.int 2 954) (.ref 487),DictEntry.mk 3 (.int 3 956) (.ref 488),DictEntry.mk 4 (.int 4 958) (.ref 489),DictEntry.mk 5 (.int 5 960) (.ref 490),DictEntry.mk 6 (.int 6 962) (.ref 491),DictEntry.mk 7 (.int 7 964) (.ref 492),DictEntry.mk 8 (.int 8 966) (.ref 493),DictEntry.mk 15 (.int 15 968) (.ref 494),DictEntry.mk 16 (.int 16 970) (.ref 495),DictEntry.mk 17 (.int 17 972) (.ref 496)] 12) #[]
def x485 (P:Params):Obj:=tp #[.int 5 951,.ref 357]
def x486 (P:Params):Obj:=tp #[.int 2 953,.ref 371]
def x487 (P:Params):Obj:=tp #[.int 1 955,.ref 378]
def x488 (P:Params):Obj:=tp #[.int 0 957,.ref 385]
def x489 (P:Params):Obj:=tp #[.int 0 959,.ref 392]
def x490 (P:Params):Obj:=tp #[.int 1 961,.ref 399]
def x491 (P:Params):Obj:=tp #[.int 0 963,.ref 406]
def x492 (P:Params):Obj:=tp #[.int 1 965,.ref 413]
def x493 (P:Params):Obj:=tp #[.int 2 967,.ref 420]
def x494 (P:Params):Obj:=tp #[.int 0 969,.ref 469]
def x495 (P:Params):Obj:=tp #[.int 2 971,.ref 476]
def x496 (P:Params):Obj:=tp #[.int 0 973,.ref 483]
def x497 (P:Params):Obj:=ob "dict" none (.dict #[DictEntry.mk 9 (.int 9 987) (.ref 499),DictEntry.mk 10 (.int 10 988) (.ref 501),DictEntry.mk 11 (.int 11 993) (.ref 503),DictEntry.mk 12 (.int 12 997) (.ref 505),DictEntry.mk 13 (.int 13 1001) (.ref 507),DictEntry.mk 14 (.int 14 1003) (.ref 509)] 6) #[]
def x498 (P:Params):Obj:=tp #[]
def x499 (P:Params):Obj:=tp #[.ref 498,.none,.ref 427]
def x500 (P:Params):Obj:=tp #[.int 9 989,.int 6 990,.int 4 991]
def x501 (P:Params):Obj:=tp #[.ref 500,.int 1000 992,.ref 434]
def x502 (P:Params):Obj:=tp #[.int 6 994,.int 4 995]
def x503 (P:Params):Obj:=tp #[.ref 502,.int 1000 996,.ref 441]
def x504 (P:Params):Obj:=tp #[.int 9 998,.int 4 999]
def x505 (P:Params):Obj:=tp #[.ref 504,.int 1000 1000,.ref 448]
def x506 (P:Params):Obj:=tp #[]
def x507 (P:Params):Obj:=tp #[.ref 506,.int 600 1002,.ref 455]
def x508 (P:Params):Obj:=tp #[]
def x509 (P:Params):Obj:=tp #[.ref 508,.int 150 1004,.ref 462]
def l15 (P:Params):List Obj:=[boot_o_0 P,boot_o_1 P,boot_o_2 P,boot_o_3 P,boot_o_4 P,boot_o_5 P,boot_o_6 P,boot_o_7 P,boot_o_8 P,boot_o_9 P,boot_o_10 P,tp #[],fl #[],x13 P,x14 P]
def l524 (P:Params):List Obj:=[boot_o_0 P,boot_o_1 P,boot_o_2 P,x3 P,boot_o_4 P,boot_o_5 P,boot_o_6 P,boot_o_7 P,boot_o_8 P,boot_o_9 P,boot_o_10 P] ++ List.flatten [[tp #[],fl #[I 2,I 0,.ref 20,I 7,I 0,.ref 27,I 17,I 0,.ref 34,I 25,I 0,.ref 39,I 27,I 0,.ref 46,I 32,I 0,.ref 53,I 40,I 0,.ref 60,I 46,I 0,.ref 67,I 52,I 0,.ref 74,I 57,I 0,.ref 81,I 62,I 0,.ref 88,I 71,I 0,.ref 93,I 74,I 0,.ref 100,I 108,I 0,.ref 147,I 175,I 0,.ref 236,I 184,I 0,.ref 243,I 189,I 0,.ref 250,I 200,I 0,.ref 255,I 209,I 0,.ref 262,I 212,I 0,.ref 269,I 216,I 0,.ref 276,I 226,I 0,.ref 283,I 237,I 0,.ref 290,I 247,I 0,.ref 306,I 253,I 0,.ref 311,I 255,I 0,.ref 316,I 261,I 0,.ref 323,I 274,I 0,.ref 330,I 280,I 0,.ref 337,I 303,I 0,.ref 342,I 305,I 0,.ref 349,I 307,I 0,.ref 356,I 312,I 0,.ref 363,I 314,I 0,.ref 370,I 325,I 0,.ref 377,I 333,I 0,.ref 384,I 339,I 0,.ref 391,I 341,I 0,.ref 398,I 348,I 0,.ref 405,I 351,I 0,.ref 412,I 359,I 0,.ref 419,I 368,I 0,.ref 426,I 373,I 0,.ref 433,I 380,I 0,.ref 440,I 386,I 0,.ref 447,I 392,I 0,.ref 454,I 399,I 0,.ref 461,I 404,I 0,.ref 468,I 409,I 0,.ref 475,I 416,I 0,.ref 482,I 420,I 0,.ref 515,I 429,I 0,.ref 522],x13 P,x14 P],
 d7 "crevasse" "crevasse" (top 1) 2 15 189 m0,
 d7 "crevasses" "crevasses" (top 2) 7 22 200 m0,
 d7 "hidden_fields" "hidden_fields" (top 3) 17 29 214 m0,
 d5 "agreeing" "agreeing" (top 4) 25 36 230 m0,
 d7 "ever_holes" "ever_holes" (top 5) 27 41 236 m0,
 d7 "holes" "holes" (top 6) 32 48 245 m0,
 d7 "hole_counts" "hole_counts" (top 7) 40 55 255 m0,
 d7 "cells_number" "cells_number" (top 8) 46 62 266 m0,
 d7 "bit_counts" "bit_counts" (top 10) 52 69 277 m1,
 d7 "hole_places" "hole_places" (top 11) 57 76 286 m1,
 d7 "first_fields" "first_fields" (top 12) 62 83 297 m1,
 d5 "clear_fields" "clear_fields" (top 13) 71 90 309 m1,
 [tp #[],ob "builtin_function_or_method" none (.fields #[.builtin "type.__prepare__",.type "type"]) #[],ob "dict" none (.dict #[de P "__module__" 322 (.str "ropedparty.crossing" 275),de P "__qualname__" 324 (.str "Crossing" 323),de P "__firstlineno__" 326 (.int 74 325),de P "__init__" 335 (.ref 108),de P "most_holes" 341 (.ref 113),de P "standing" 354 (.ref 120),de P "first_fall" 370 (.ref 127),de P "is_safe" 380 (.ref 134),de P "__static_attributes__" 384 (.ref 135)] 9) #[],tp #[],fl #[I 76,I 4,.ref 107,I 81,I 4,.ref 112,I 84,I 4,.ref 119,I 92,I 4,.ref 126,I 102,I 4,.ref 133],ob "code" none (.fields #[.str "Crossing" 317,.str "Crossing" 318,.str "/claim/cut.py" 319,I 74,I 0,I 0,I 0,I 0,.ref 98,.bool false,I 181,.ref 99,.none,.none,.none,.none,I 320,I 74,.str "/claim/cut.py" 321]) #[],ob "frame" none .plain #[some (.ref 100),some (.ref 3),some (.ref 97),none,some (.str "ropedparty.crossing" 275),none,some (.ref 0)]],
 d7 "__init__" "Crossing.__init__" (inClass (top 14) 0) 76 102 327 m1,
 d5 "most_holes" "Crossing.most_holes" (inClass (top 14) 1) 81 109 336 m1,
 d7 "standing" "Crossing.standing" (inClass (top 14) 2) 84 114 342 m1,
 d7 "first_fall" "Crossing.first_fall" (inClass (top 14) 3) 92 121 355 m1,
 d7 "is_safe" "Crossing.is_safe" (inClass (top 14) 4) 102 128 371 m1,
 [x135 P,x136 P,x137 P,x138 P,x139 P,ob "super" none (.fields #[.ref 137,.ref 137,.ref 137]) #[],ob "builtin_function_or_method" none (.fields #[.builtin "object.__init_subclass__",.ref 137]) #[],tp #[],ob "builtin_function_or_method" none (.fields #[.builtin "type.__prepare__",.type "type"]) #[],ob "dict" none (.dict #[de P "__module__" 407 (.str "ropedparty.glacier" 392),de P "__qualname__" 409 (.str "Glacier" 408),de P "__firstlineno__" 411 (.int 108 410),de P "__init__" 418 (.ref 155),de P "lay" 430 (.ref 162),de P "keep" 438 (.ref 169),de P "cell_count" 445 (.ref 176),de P "has_cell" 453 (.ref 183),de P "cells_to_probe" 459 (.ref 188),de P "add_find" 468 (.ref 195),de P "drop_find" 479 (.ref 202),de P "counted_holes" 486 (.ref 209),de P "knowledge" 498 (.ref 216),de P "surely_firm" 508 (.ref 223),de P "__static_attributes__" 518 (.ref 224)] 15) #[],tp #[],fl #[I 110,I 4,.ref 154,I 113,I 4,.ref 161,I 123,I 4,.ref 168,I 127,I 4,.ref 175,I 130,I 4,.ref 182,I 133,I 4,.ref 187,I 136,I 4,.ref 194,I 140,I 4,.ref 201,I 147,I 4,.ref 208,I 152,I 4,.ref 215,I 167,I 4,.ref 222],ob "code" none (.fields #[.str "Glacier" 402,.str "Glacier" 403,.str "/claim/cut.py" 404,I 108,I 0,I 0,I 0,I 0,.ref 145,.bool false,I 181,.ref 146,.none,.none,.none,.none,I 405,I 108,.str "/claim/cut.py" 406]) #[],ob "frame" none .plain #[some (.ref 147),some (.ref 3),some (.ref 144),none,some (.str "ropedparty.glacier" 392),none,some (.ref 0)]],
 d7 "__init__" "Glacier.__init__" (inClass (top 19) 0) 110 149 412 m2,
 d7 "lay" "Glacier.lay" (inClass (top 19) 1) 113 156 419 m2,
 d7 "keep" "Glacier.keep" (inClass (top 19) 2) 123 163 431 m2,
 d7 "cell_count" "Glacier.cell_count" (inClass (top 19) 3) 127 170 439 m2,
 d7 "has_cell" "Glacier.has_cell" (inClass (top 19) 4) 130 177 446 m2,
 d5 "cells_to_probe" "Glacier.cells_to_probe" (inClass (top 19) 5) 133 184 454 m2,
 d7 "add_find" "Glacier.add_find" (inClass (top 19) 6) 136 189 460 m2,
 d7 "drop_find" "Glacier.drop_find" (inClass (top 19) 7) 140 196 469 m2,
 d7 "counted_holes" "Glacier.counted_holes" (inClass (top 19) 8) 147 203 480 m2,
 d7 "knowledge" "Glacier.knowledge" (inClass (top 19) 9) 152 210 487 m2,
 d7 "surely_firm" "Glacier.surely_firm" (inClass (top 19) 10) 167 217 499 m2,
 [x224 P,x225 P,x226 P,x227 P,x228 P,ob "super" none (.fields #[.ref 226,.ref 226,.ref 226]) #[],ob "builtin_function_or_method" none (.fields #[.builtin "object.__init_subclass__",.ref 226]) #[]],
 d7 "fields_with_hole" "fields_with_hole" (top 22) 175 231 530 m3,
 d7 "fields_not_clear" "fields_not_clear" (top 23) 184 238 542 m3,
 d7 "cover_from" "cover_from" (top 24) 189 245 552 m3,
 d5 "least_cover" "least_cover" (top 25) 200 252 566 m3,
 d7 "is_settled" "is_settled" (top 26) 209 257 572 m3,
 d7 "is_enough" "is_enough" (top 27) 212 264 581 m3,
 d7 "first_probe" "first_probe" (top 28) 216 271 591 m3,
 d7 "least_plan" "least_plan" (top 29) 226 278 604 m3,
 d7 "best_split" "best_split" (top 30) 237 285 618 m3,
 [x292 P,x293 P,x294 P,x295 P,x296 P,x297 P,x298 P,x299 P,x300 P],
 d7 "neighbour" "neighbour" (top 34) 247 301 657 m4,
 d5 "leads_on" "leads_on" (top 35) 253 308 669 m4,
 d5 "is_way" "is_way" (top 36) 255 313 675 m4,
 d7 "distances" "distances" (top 37) 261 318 681 m4,
 d7 "least_direction" "least_direction" (top 38) 274 325 697 m4,
 d7 "shortest_way" "shortest_way" (top 39) 280 332 709 m4,
 d5 "within" "within" (top 50) 303 339 750 m5,
 d7 "is_field" "is_field" (top 51) 305 344 756 m5,
 d7 "answer_field" "answer_field" (top 52) 307 351 763 m5,
 d7 "is_find" "is_find" (top 53) 312 358 771 m5,
 d7 "answer_found" "answer_found" (top 54) 314 365 779 m5,
 d7 "answer_undo" "answer_undo" (top 55) 325 372 789 m5,
 d7 "answer_finds" "answer_finds" (top 56) 333 379 798 m5,
 d7 "answer_count" "answer_count" (top 57) 339 386 809 m5,
 d7 "answer_cell" "answer_cell" (top 58) 341 393 817 m5,
 d7 "answer_map" "answer_map" (top 59) 348 400 828 m5,
 d7 "answer_world" "answer_world" (top 60) 351 407 837 m5,
 d7 "answer_way" "answer_way" (top 61) 359 414 847 m5,
 d7 "answer_look" "answer_look" (top 62) 368 421 858 m5,
 d7 "answer_rope" "answer_rope" (top 63) 373 428 870 m5,
 d7 "answer_fewest" "answer_fewest" (top 64) 380 435 882 m5,
 d7 "answer_spacing" "answer_spacing" (top 65) 386 442 893 m5,
 d7 "answer_cover" "answer_cover" (top 66) 392 449 904 m5,
 d7 "answer_plan" "answer_plan" (top 67) 399 456 914 m5,
 d7 "answer_split" "answer_split" (top 68) 404 463 924 m5,
 d7 "answer_suppose" "answer_suppose" (top 69) 409 470 933 m5,
 d7 "answer_form" "answer_form" (top 70) 416 477 942 m5,
 [x484 P,x485 P,x486 P,x487 P,x488 P,x489 P,x490 P,x491 P,x492 P,x493 P,x494 P,x495 P,x496 P,x497 P,x498 P,x499 P,x500 P,x501 P,x502 P,x503 P,x504 P,x505 P,x506 P,x507 P,x508 P,x509 P],
 d7 "answer_on_way" "answer_on_way" (top 73) 420 510 1012 m5,
 d7 "answers" "answers" (top 74) 429 517 1025 m5]
def KK:Params→Frag:=fun P=>(nat_lit 2,boot_o_2 P) ::
 (nat_lit 3,x3 P) ::
 (nat_lit 20,c7 "crevasse" "crevasse" (top 1) 2 15 189) ::
 (nat_lit 21,fo "crevasse" "crevasse" (top 1) 20 m0) ::
 (nat_lit 27,c7 "crevasses" "crevasses" (top 2) 7 22 200) ::
 (nat_lit 28,fo "crevasses" "crevasses" (top 2) 27 m0) ::
 (nat_lit 34,c7 "hidden_fields" "hidden_fields" (top 3) 17 29 214) ::
 (nat_lit 35,fo "hidden_fields" "hidden_fields" (top 3) 34 m0) ::
 (nat_lit 39,c5 "agreeing" "agreeing" (top 4) 25 36 230) ::
 (nat_lit 40,fo "agreeing" "agreeing" (top 4) 39 m0) ::
 (nat_lit 46,c7 "ever_holes" "ever_holes" (top 5) 27 41 236) ::
 (nat_lit 47,fo "ever_holes" "ever_holes" (top 5) 46 m0) ::
 (nat_lit 53,c7 "holes" "holes" (top 6) 32 48 245) ::
 (nat_lit 54,fo "holes" "holes" (top 6) 53 m0) ::
 (nat_lit 60,c7 "hole_counts" "hole_counts" (top 7) 40 55 255) ::
 (nat_lit 61,fo "hole_counts" "hole_counts" (top 7) 60 m0) ::
 (nat_lit 67,c7 "cells_number" "cells_number" (top 8) 46 62 266) ::
 (nat_lit 68,fo "cells_number" "cells_number" (top 8) 67 m0) ::
 (nat_lit 74,c7 "bit_counts" "bit_counts" (top 10) 52 69 277) ::
 (nat_lit 75,fo "bit_counts" "bit_counts" (top 10) 74 m1) ::
 (nat_lit 81,c7 "hole_places" "hole_places" (top 11) 57 76 286) ::
 (nat_lit 82,fo "hole_places" "hole_places" (top 11) 81 m1) ::
 (nat_lit 88,c7 "first_fields" "first_fields" (top 12) 62 83 297) ::
 (nat_lit 89,fo "first_fields" "first_fields" (top 12) 88 m1) ::
 (nat_lit 93,c5 "clear_fields" "clear_fields" (top 13) 71 90 309) ::
 (nat_lit 94,fo "clear_fields" "clear_fields" (top 13) 93 m1) ::
 (nat_lit 107,c7 "__init__" "Crossing.__init__" (inClass (top 14) 0) 76 102 327) ::
 (nat_lit 108,fo "__init__" "Crossing.__init__" (inClass (top 14) 0) 107 m1) ::
 (nat_lit 112,c5 "most_holes" "Crossing.most_holes" (inClass (top 14) 1) 81 109 336) ::
 (nat_lit 113,fo "most_holes" "Crossing.most_holes" (inClass (top 14) 1) 112 m1) ::
 (nat_lit 119,c7 "standing" "Crossing.standing" (inClass (top 14) 2) 84 114 342) ::
 (nat_lit 120,fo "standing" "Crossing.standing" (inClass (top 14) 2) 119 m1) ::
 (nat_lit 126,c7 "first_fall" "Crossing.first_fall" (inClass (top 14) 3) 92 121 355) ::
 (nat_lit 127,fo "first_fall" "Crossing.first_fall" (inClass (top 14) 3) 126 m1) ::
 (nat_lit 133,c7 "is_safe" "Crossing.is_safe" (inClass (top 14) 4) 102 128 371) ::
 (nat_lit 134,fo "is_safe" "Crossing.is_safe" (inClass (top 14) 4) 133 m1) ::
 (nat_lit 135,x135 P) ::
 (nat_lit 136,x136 P) ::
 (nat_lit 137,x137 P) ::
 (nat_lit 138,x138 P) ::
 (nat_lit 139,x139 P) ::
 (nat_lit 154,c7 "__init__" "Glacier.__init__" (inClass (top 19) 0) 110 149 412) ::
 (nat_lit 155,fo "__init__" "Glacier.__init__" (inClass (top 19) 0) 154 m2) ::
 (nat_lit 161,c7 "lay" "Glacier.lay" (inClass (top 19) 1) 113 156 419) ::
 (nat_lit 162,fo "lay" "Glacier.lay" (inClass (top 19) 1) 161 m2) ::
 (nat_lit 168,c7 "keep" "Glacier.keep" (inClass (top 19) 2) 123 163 431) ::
 (nat_lit 169,fo "keep" "Glacier.keep" (inClass (top 19) 2) 168 m2) ::
 (nat_lit 175,c7 "cell_count" "Glacier.cell_count" (inClass (top 19) 3) 127 170 439) ::
 (nat_lit 176,fo "cell_count" "Glacier.cell_count" (inClass (top 19) 3) 175 m2) ::
 (nat_lit 182,c7 "has_cell" "Glacier.has_cell" (inClass (top 19) 4) 130 177 446) ::
 (nat_lit 183,fo "has_cell" "Glacier.has_cell" (inClass (top 19) 4) 182 m2) ::
 (nat_lit 187,c5 "cells_to_probe" "Glacier.cells_to_probe" (inClass (top 19) 5) 133 184 454) ::
 (nat_lit 188,fo "cells_to_probe" "Glacier.cells_to_probe" (inClass (top 19) 5) 187 m2) ::
 (nat_lit 194,c7 "add_find" "Glacier.add_find" (inClass (top 19) 6) 136 189 460) ::
 (nat_lit 195,fo "add_find" "Glacier.add_find" (inClass (top 19) 6) 194 m2) ::
 (nat_lit 201,c7 "drop_find" "Glacier.drop_find" (inClass (top 19) 7) 140 196 469) ::
 (nat_lit 202,fo "drop_find" "Glacier.drop_find" (inClass (top 19) 7) 201 m2) ::
 (nat_lit 208,c7 "counted_holes" "Glacier.counted_holes" (inClass (top 19) 8) 147 203 480) ::
 (nat_lit 209,fo "counted_holes" "Glacier.counted_holes" (inClass (top 19) 8) 208 m2) ::
 (nat_lit 215,c7 "knowledge" "Glacier.knowledge" (inClass (top 19) 9) 152 210 487) ::
 (nat_lit 216,fo "knowledge" "Glacier.knowledge" (inClass (top 19) 9) 215 m2) ::
 (nat_lit 222,c7 "surely_firm" "Glacier.surely_firm" (inClass (top 19) 10) 167 217 499) ::
 (nat_lit 223,fo "surely_firm" "Glacier.surely_firm" (inClass (top 19) 10) 222 m2) ::
 (nat_lit 224,x224 P) ::
 (nat_lit 225,x225 P) ::
 (nat_lit 226,x226 P) ::
 (nat_lit 227,x227 P) ::
 (nat_lit 228,x228 P) ::
 (nat_lit 236,c7 "fields_with_hole" "fields_with_hole" (top 22) 175 231 530) ::
 (nat_lit 237,fo "fields_with_hole" "fields_with_hole" (top 22) 236 m3) ::
 (nat_lit 243,c7 "fields_not_clear" "fields_not_clear" (top 23) 184 238 542) ::
 (nat_lit 244,fo "fields_not_clear" "fields_not_clear" (top 23) 243 m3) ::
 (nat_lit 250,c7 "cover_from" "cover_from" (top 24) 189 245 552) ::
 (nat_lit 251,fo "cover_from" "cover_from" (top 24) 250 m3) ::
 (nat_lit 255,c5 "least_cover" "least_cover" (top 25) 200 252 566) ::
 (nat_lit 256,fo "least_cover" "least_cover" (top 25) 255 m3) ::
 (nat_lit 262,c7 "is_settled" "is_settled" (top 26) 209 257 572) ::
 (nat_lit 263,fo "is_settled" "is_settled" (top 26) 262 m3) ::
 (nat_lit 269,c7 "is_enough" "is_enough" (top 27) 212 264 581) ::
 (nat_lit 270,fo "is_enough" "is_enough" (top 27) 269 m3) ::
 (nat_lit 276,c7 "first_probe" "first_probe" (top 28) 216 271 591) ::
 (nat_lit 277,fo "first_probe" "first_probe" (top 28) 276 m3) ::
 (nat_lit 283,c7 "least_plan" "least_plan" (top 29) 226 278 604) ::
 (nat_lit 284,fo "least_plan" "least_plan" (top 29) 283 m3) ::
 (nat_lit 290,c7 "best_split" "best_split" (top 30) 237 285 618) ::
 (nat_lit 291,fo "best_split" "best_split" (top 30) 290 m3) ::
 (nat_lit 292,x292 P) ::
 (nat_lit 293,x293 P) ::
 (nat_lit 294,x294 P) ::
 (nat_lit 295,x295 P) ::
 (nat_lit 296,x296 P) ::
 (nat_lit 297,x297 P) ::
 (nat_lit 298,x298 P) ::
 (nat_lit 299,x299 P) ::
 (nat_lit 300,x300 P) ::
 (nat_lit 306,c7 "neighbour" "neighbour" (top 34) 247 301 657) ::
 (nat_lit 307,fo "neighbour" "neighbour" (top 34) 306 m4) ::
 (nat_lit 311,c5 "leads_on" "leads_on" (top 35) 253 308 669) ::
 (nat_lit 312,fo "leads_on" "leads_on" (top 35) 311 m4) ::
 (nat_lit 316,c5 "is_way" "is_way" (top 36) 255 313 675) ::
 (nat_lit 317,fo "is_way" "is_way" (top 36) 316 m4) ::
 (nat_lit 323,c7 "distances" "distances" (top 37) 261 318 681) ::
 (nat_lit 324,fo "distances" "distances" (top 37) 323 m4) ::
 (nat_lit 330,c7 "least_direction" "least_direction" (top 38) 274 325 697) ::
 (nat_lit 331,fo "least_direction" "least_direction" (top 38) 330 m4) ::
 (nat_lit 337,c7 "shortest_way" "shortest_way" (top 39) 280 332 709) ::
 (nat_lit 338,fo "shortest_way" "shortest_way" (top 39) 337 m4) ::
 (nat_lit 342,c5 "within" "within" (top 50) 303 339 750) ::
 (nat_lit 343,fo "within" "within" (top 50) 342 m5) ::
 (nat_lit 349,c7 "is_field" "is_field" (top 51) 305 344 756) ::
 (nat_lit 350,fo "is_field" "is_field" (top 51) 349 m5) ::
 (nat_lit 356,c7 "answer_field" "answer_field" (top 52) 307 351 763) ::
 (nat_lit 357,fo "answer_field" "answer_field" (top 52) 356 m5) ::
 (nat_lit 363,c7 "is_find" "is_find" (top 53) 312 358 771) ::
 (nat_lit 364,fo "is_find" "is_find" (top 53) 363 m5) ::
 (nat_lit 370,c7 "answer_found" "answer_found" (top 54) 314 365 779) ::
 (nat_lit 371,fo "answer_found" "answer_found" (top 54) 370 m5) ::
 (nat_lit 377,c7 "answer_undo" "answer_undo" (top 55) 325 372 789) ::
 (nat_lit 378,fo "answer_undo" "answer_undo" (top 55) 377 m5) ::
 (nat_lit 384,c7 "answer_finds" "answer_finds" (top 56) 333 379 798) ::
 (nat_lit 385,fo "answer_finds" "answer_finds" (top 56) 384 m5) ::
 (nat_lit 391,c7 "answer_count" "answer_count" (top 57) 339 386 809) ::
 (nat_lit 392,fo "answer_count" "answer_count" (top 57) 391 m5) ::
 (nat_lit 398,c7 "answer_cell" "answer_cell" (top 58) 341 393 817) ::
 (nat_lit 399,fo "answer_cell" "answer_cell" (top 58) 398 m5) ::
 (nat_lit 405,c7 "answer_map" "answer_map" (top 59) 348 400 828) ::
 (nat_lit 406,fo "answer_map" "answer_map" (top 59) 405 m5) ::
 (nat_lit 412,c7 "answer_world" "answer_world" (top 60) 351 407 837) ::
 (nat_lit 413,fo "answer_world" "answer_world" (top 60) 412 m5) ::
 (nat_lit 419,c7 "answer_way" "answer_way" (top 61) 359 414 847) ::
 (nat_lit 420,fo "answer_way" "answer_way" (top 61) 419 m5) ::
 (nat_lit 426,c7 "answer_look" "answer_look" (top 62) 368 421 858) ::
 (nat_lit 427,fo "answer_look" "answer_look" (top 62) 426 m5) ::
 (nat_lit 433,c7 "answer_rope" "answer_rope" (top 63) 373 428 870) ::
 (nat_lit 434,fo "answer_rope" "answer_rope" (top 63) 433 m5) ::
 (nat_lit 440,c7 "answer_fewest" "answer_fewest" (top 64) 380 435 882) ::
 (nat_lit 441,fo "answer_fewest" "answer_fewest" (top 64) 440 m5) ::
 (nat_lit 447,c7 "answer_spacing" "answer_spacing" (top 65) 386 442 893) ::
 (nat_lit 448,fo "answer_spacing" "answer_spacing" (top 65) 447 m5) ::
 (nat_lit 454,c7 "answer_cover" "answer_cover" (top 66) 392 449 904) ::
 (nat_lit 455,fo "answer_cover" "answer_cover" (top 66) 454 m5) ::
 (nat_lit 461,c7 "answer_plan" "answer_plan" (top 67) 399 456 914) ::
 (nat_lit 462,fo "answer_plan" "answer_plan" (top 67) 461 m5) ::
 (nat_lit 468,c7 "answer_split" "answer_split" (top 68) 404 463 924) ::
 (nat_lit 469,fo "answer_split" "answer_split" (top 68) 468 m5) ::
 (nat_lit 475,c7 "answer_suppose" "answer_suppose" (top 69) 409 470 933) ::
 (nat_lit 476,fo "answer_suppose" "answer_suppose" (top 69) 475 m5) ::
 (nat_lit 482,c7 "answer_form" "answer_form" (top 70) 416 477 942) ::
 (nat_lit 483,fo "answer_form" "answer_form" (top 70) 482 m5) ::
 (nat_lit 484,x484 P) ::
 (nat_lit 485,x485 P) ::
 (nat_lit 486,x486 P) ::
 (nat_lit 487,x487 P) ::
 (nat_lit 488,x488 P) ::
 (nat_lit 489,x489 P) ::
 (nat_lit 490,x490 P) ::
 (nat_lit 491,x491 P) ::
 (nat_lit 492,x492 P) ::
 (nat_lit 493,x493 P) ::
 (nat_lit 494,x494 P) ::
 (nat_lit 495,x495 P) ::
 (nat_lit 496,x496 P) ::
 (nat_lit 497,x497 P) ::
 (nat_lit 498,x498 P) ::
 (nat_lit 499,x499 P) ::
 (nat_lit 500,x500 P) ::
 (nat_lit 501,x501 P) ::
 (nat_lit 502,x502 P) ::
 (nat_lit 503,x503 P) ::
 (nat_lit 504,x504 P) ::
 (nat_lit 505,x505 P) ::
 (nat_lit 506,x506 P) ::
 (nat_lit 507,x507 P) ::
 (nat_lit 508,x508 P) ::
 (nat_lit 509,x509 P) ::
 (nat_lit 515,c7 "answer_on_way" "answer_on_way" (top 73) 420 510 1012) ::
 (nat_lit 516,fo "answer_on_way" "answer_on_way" (top 73) 515 m5) ::
 (nat_lit 522,c7 "answers" "answers" (top 74) 429 517 1025) ::
 (nat_lit 523,fo "answers" "answers" (top 74) 522 m5)::[]
def aK:List Addr:=[2,3,20,21,27,28,34,35,39,40,46,47,53,54,60,61,67,68,74,75,81,82,88,89,93,94,107,108,112,113,119,120,126,127,133,134,135,136,137,138,139,154,155,161,162,168,169,175,176,182,183,187,188,194,195,201,202,208,209,215,216,222,223,224,225,226,227,228,236,237,243,244,250,251,255,256,262,263,269,270,276,277,283,284,290,291,292,293,294,295,296,297,298,299,300,306,307,311,312,316,317,323,324,330,331,337,338,342,343,349,350,356,357,363,364,370,371,377,378,384,385,391,392,398,399,405,406,412,413,419,420,426,427,433,434,440,441,447,448,454,455,461,462,468,469,475,476,482,483,484,485,486,487,488,489,490,491,492,493,494,495,496,497,498,499,500,501,502,503,504,505,506,507,508,509,515,516,522,523]
theorem eK (P:Params):aK=(KK P).map (·.1):=by kernel_rfl
def ev:List Obj→List Obj | x::_::r=>x::ev r | l=>l
def mkT:Nat→List Obj→BT | 0,_=>.nil | _,[]=>.nil | n + 1,x::r=>.node x (mkT n (ev r)) (mkT n (ev r.tail))
abbrev an6:Option Value:=some (.ref 6)
abbrev p0:Pos:=⟨0,0,0,0⟩
def ev3:Env:={ scope:=prg.main.scope,locals:=mainNs,globals:=mainNs,cells:=[],code:=.ref 13,frame:=some 14 }
abbrev cE:Code:=.body (behindTheImports prg) ev3
def sT (l:List Obj) (n k:Nat) (os:OsState):SharedT:=⟨mkT 12 l,n,{},⟨[]⟩,{},k,os⟩
def RL (w:World):OsState→Option (Flow × SharedT × Code × Pos):=fun os=>segRunT treeTable prg w 11 an6 1 4000 (sT (l15 w.params) 15 187 os) (piecesOf (behindTheImports prg) ev3 cE p0 [topFrame p0])
def RR (w:World):OsState→Option (Flow × SharedT × Code × Pos):=fun os=>some (.next,sT (l524 w.params) 524 1040 os,cE,⟨429,0,446,15⟩)
theorem run0 (w:World):RL (w.withFollow "special-get-raises" false)=RR (w.withFollow "special-get-raises" false):=by kernel_rfl
theorem run1 (w:World):RL (w.withFollow "special-get-raises" true)=RR (w.withFollow "special-get-raises" true):=by kernel_rfl
theorem run (w:World):RL w=RR w:=byRow2 "special-get-raises" (P:=fun w=>RL w=RR w) run0 run1 w
theorem absl (P:Params):absHeap (mkT 12 (l524 P)) 524 {}=⟨⟨l524 P⟩,{}⟩:=by kernel_rfl
theorem pre (w:World):(fun os=>topGo treeTable prg w 11 an6 12 ⟨boot_heap w.params,⟨[]⟩,boot_drawn,boot_toks,os⟩ (topStub prg))=fun os=>some ((sT (l15 w.params) 15 187 os).abs,⟨denote treeTable cE,cE,p0,[topFrame p0]⟩):=by kernel_rfl
theorem block (w:World):(fun os=>segRun treeTable prg w 11 an6 1 1 (sT (l15 w.params) 15 187 os).abs (blockOf (behindTheImports prg) ev3 cE p0 [topFrame p0]))=fun os=>some (.next,(sT (l15 w.params) 15 187 os).abs,cE,p0):=by kernel_rfl
theorem fin (w:World) (s:Shared):topRun treeTable prg w 11 an6 2 s ⟨doneF .next,cE,⟨429,0,446,15⟩,[topFrame p0]⟩=some s:=by kernel_rfl
theorem hrun (w:World) (os:OsState):topRun treeTable prg w 11 an6 (12 + (1 + (4000 + 2))) ⟨boot_heap w.params,⟨[]⟩,boot_drawn,boot_toks,os⟩ (topStub prg)=some ⟨⟨⟨l524 w.params⟩,{}⟩,⟨[]⟩,{},1040,os⟩:=by
 have e:(sT (l524 w.params) 524 1040 os).abs=⟨⟨⟨l524 w.params⟩,{}⟩,⟨[]⟩,{},1040,os⟩:=by
  show (⟨absHeap (mkT 12 (l524 w.params)) 524 {},⟨[]⟩,{},1040,os⟩:Shared)=_
  rw [absl]
 rw [← e]
 have r:=piece_app (rest:=[]) (segRun_of (congrFun (run w) os)) (piece_nil (fin w _))
 rw [List.append_nil] at r
 exact go_top (congrFun (pre w) os) (piece_block (congrFun (block w) os) r)
def dA:DefRec:=⟨"answers",defArgs (top 74),defBody (top 74),defScope (top 74),⟨429,0,446,15⟩⟩
abbrev vq:Program:=view prg ((List.range 75).filter fun i=>!([0,9,15,20,31,40].contains i))
abbrev lz:List Str:=["CALLS","WAY_CALLS"]
abbrev Xt (s:Shared):Bool:=xlAt vq [] s && recOk [] s
abbrev hk:Hook:=kHook KK aK eK
theorem look1 (w:World):(fun os=>(staticsOk (importedModules prg.main.body) (boot_heap w.params) ⟨⟨l524 w.params⟩,{}⟩ && namesBound prg ⟨⟨l524 w.params⟩,{}⟩ && gensDone ⟨⟨⟨l524 w.params⟩,{}⟩,⟨[]⟩,{},1040,os⟩ && laidKept (boot_heap w.params) ⟨⟨l524 w.params⟩,{}⟩))=fun _=>true:=by kernel_rfl
theorem look2 (w:World):(fun os=>openSeen vq lz (importedModules prg.main.body) Xt true ⟨⟨⟨l524 w.params⟩,{}⟩,⟨[]⟩,{},1040,os⟩)=fun _=>openGood vq lz:=by kernel_rfl
theorem look3 (w:World):(fun os=>hk.obs ⟨⟨⟨l524 w.params⟩,{}⟩,⟨[]⟩,{},1040,os⟩)=fun _=>hk.val w:=by kernel_rfl
theorem opn:∀ w:World,(fencedOpening treeTable prg w 6434).map (fun s=>(s.heap,s.gens,s.drawn,s.toks))=some (boot_heap w.params,Array.mk [],boot_drawn,boot_toks):=boot_open (by kernel_rfl) (by decide) (fun s=>by kernel_rfl)
theorem size (w:World):((boot_heap w.params).isNs mainGlobals && (Array.mk []:Array GenState).size == 0,(boot_heap w.params).objs.size,(boot_heap w.params).nsMap mainGlobals "__annotations__")=(true,11,an6):=by kernel_rfl
theorem left:LeftO prg vq lz Xt hk.obs hk.val 6434:=
 LeftO.of_pieces (H₁:=fun P=>⟨⟨l524 P⟩,{}⟩) (gs₁:=⟨[]⟩) (d₁:={}) (k₁:=1040) opn size hrun (by decide) fun w=>funext fun os=>by
  rw [congrFun (look1 w) os,congrFun (look2 w) os,congrFun (look3 w) os]
end
end Hd
namespace L2
open PySem PySem.Spec PyProof.Rows
abbrev Key:=Sum Int Str
def keyIs:Key→Value→Bool
 | .inl k,v=>Value.isInt k v
 | .inr x,v=>Value.isStrOf x v
def keyH (w:World):Key→Int
 | .inl k=>hashInt k
 | .inr x=>hashStr w x
theorem keyIs_shape:∀ {k:Key} {v:Value},keyIs k v=true→(∃ i t,k=Sum.inl i∧v=Value.int i t)∨(∃ x t,k=Sum.inr x∧v=Value.str x t)
 | .inl i,v,h=>by
  obtain ⟨t,e⟩:=Value.isInt_shape (k:=i) (v:=v) h
  exact .inl ⟨i,t,rfl,e⟩
 | .inr x,v,h=>by
  obtain ⟨t,e⟩:=Value.isStrOf_shape (x:=x) (v:=v) h
  exact .inr ⟨x,t,rfl,e⟩
theorem keyIs_int (i:Int) (t:Tok):keyIs (.inl i) (.int i t)=true:=by simp [keyIs,Value.isInt]
theorem keyIs_str (x:Str) (t:Tok):keyIs (.inr x) (.str x t)=true:=by simp [keyIs,Value.isStrOf]
theorem key_ll (a b:Int):decide ((Sum.inl a:Key)=Sum.inl b)=(a == b):=by
 by_cases e:a=b
 ·subst e; simp
 ·have h:¬ (Sum.inl a:Key)=Sum.inl b:=fun q=>e (Sum.inl.inj q)
  rw [decide_eq_false h]
  exact (beq_eq_false_iff_ne.mpr e).symm
theorem key_rr (a b:Str):decide ((Sum.inr a:Key)=Sum.inr b)=decide (a=b):=by
 by_cases e:a=b
 ·subst e; simp
 ·have h:¬ (Sum.inr a:Key)=Sum.inr b:=fun q=>e (Sum.inr.inj q)
  rw [decide_eq_false h,decide_eq_false e]
theorem key_lr (a:Int) (b:Str):decide ((Sum.inl a:Key)=Sum.inr b)=false:=decide_eq_false (fun q=>nomatch q)
theorem key_rl (a:Str) (b:Int):decide ((Sum.inr a:Key)=Sum.inl b)=false:=decide_eq_false (fun q=>nomatch q)
def mixKind (prog:Program) (w:World):PySem.KeyKind prog w Key where
 is:=keyIs
 hash:=keyH w
 inj:=fun v a b ha hb=>by
  rcases keyIs_shape ha with ⟨i,t,rfl,rfl⟩ | ⟨x,t,rfl,rfl⟩
  ·rcases keyIs_shape hb with ⟨j,u,rfl,e⟩ | ⟨y,u,rfl,e⟩
   ·injection e with e1 _; rw [e1]
   ·exact nomatch e
  ·rcases keyIs_shape hb with ⟨j,u,rfl,e⟩ | ⟨y,u,rfl,e⟩
   ·exact nomatch e
   ·injection e with e1 _; rw [e1]
 byValue:=fun k v h=>by
  rcases keyIs_shape h with ⟨i,t,rfl,rfl⟩ | ⟨x,t,rfl,rfl⟩ <;> rfl
 pyHash:=fun hv h=>by
  rcases keyIs_shape hv with ⟨i,t,rfl,rfl⟩ | ⟨x,t,rfl,rfl⟩
  ·exact wpAny_pyHash_int h
  ·exact wpAny_pyHash_str h
 eqBool:=fun hu hv h=>by
  rcases keyIs_shape hu with ⟨i,t,rfl,rfl⟩ | ⟨x,t,rfl,rfl⟩
  ·rcases keyIs_shape hv with ⟨j,u,rfl,rfl⟩ | ⟨y,u,rfl,rfl⟩
   ·rw [key_ll] at h; exact wpAny_eqBool_int h
   ·rw [key_lr] at h; exact SeqAt.EqAt.int_str i t y u _ _ _ _ h
  ·rcases keyIs_shape hv with ⟨j,u,rfl,rfl⟩ | ⟨y,u,rfl,rfl⟩
   ·rw [key_rl] at h; exact SeqAt.EqAt.str_int x t j u _ _ _ _ h
   ·rw [key_rr] at h; exact wpAny_eqBool_str h
 «strs»:=fun k x t v h=>by
  rcases keyIs_shape h with ⟨i,u,rfl,e⟩ | ⟨y,u,rfl,e⟩
  ·exact nomatch e
  ·injection e with e1 _
   subst e1
   cases v <;> rfl
theorem mixKind_int (prog:Program) (w:World) (i:Int) (t:Tok):(mixKind prog w).is (.inl i) (.int i t)=true:=keyIs_int i t
theorem mixKind_str (prog:Program) (w:World) (x:Str) (t:Tok):(mixKind prog w).is (.inr x) (.str x t)=true:=keyIs_str x t
end L2
namespace L2
open PySem PySem.Spec PyProof.Rows
inductive V where
 |non | bl (b:Bool) | int (i:Int) | str (x:Str) | byt (b:Array UInt8) | flt (b:UInt64) | ref (a:Addr) | ty (n:String)
 deriving DecidableEq
def RelV:V→Value→Prop
 | .non,u=>u=Value.none
 | .bl b,u=>u=Value.bool b
 | .int i,u=>∃ t,u=Value.int i t
 | .str x,u=>∃ t,u=Value.str x t
 | .byt b,u=>∃ t,u=Value.bytes b t
 | .flt b,u=>∃ t,u=Value.float b t
 | .ref a,u=>u=Value.ref a
 | .ty n,u=>u=Value.type n
abbrev Vals:List V→List Value→Prop:=Paired RelV
theorem Vals.length {xs:List V} {us:List Value} (r:Vals xs us):xs.length=us.length:=Paired.length r
theorem Vals.get:∀ {xs:List V} {us:List Value} {i:Nat} {x:V},Vals xs us→xs[i]?=some x→∃ u,us[i]?=some u∧RelV x u
 |_,_,_,_,.nil,e=>by simp at e
 |_,_,0,_,.cons r _,e=>by simp at e; subst e; exact ⟨_,rfl,r⟩
 |_,_,i + 1,x,.cons _ t,e=>by
  obtain ⟨u,h1,h2⟩:=Vals.get (i:=i) (x:=x) t (by simpa using e)
  exact ⟨u,by simpa using h1,h2⟩
theorem Vals.set {x:V} {u:Value} (r:RelV x u):∀ {xs:List V} {us:List Value} (i:Nat),Vals xs us→Vals (xs.set i x) (us.set i u)
 |_,_,_,.nil=>.nil
 |_,_,0,.cons _ t=>.cons r t
 |_,_,i + 1,.cons q t=>.cons q (Vals.set r i t)
theorem Vals.append:∀ {xs ys:List V} {us ws:List Value},Vals xs us→Vals ys ws→Vals (xs ++ ys) (us ++ ws)
 |_,_,_,_,.nil,s=>s
 |_,_,_,_,.cons r t,s=>.cons r (Vals.append t s)
theorem Vals.take:∀ {xs:List V} {us:List Value} (n:Nat),Vals xs us→Vals (xs.take n) (us.take n)
 |_,_,0,_=>.nil
 |_,_,_ + 1,.nil=>.nil
 |_,_,n + 1,.cons r t=>.cons r (Vals.take n t)
theorem Vals.drop:∀ {xs:List V} {us:List Value} (n:Nat),Vals xs us→Vals (xs.drop n) (us.drop n)
 |_,_,0,r=>r
 |_,_,_ + 1,.nil=>.nil
 |_,_,n + 1,.cons _ t=>Vals.drop n t
def RelO:Option V→Option Value→Prop
 |some v,some u=>RelV v u
 |none,none=>True
 |_,_=>False
def KV {κ:Type}:List (κ × V)→List (κ × Value)→Prop:=Paired fun (p:κ × V) (q:κ × Value)=>p.1=q.1∧RelV p.2 q.2
def kV:Key→V
 | .inl i=>.int i
 | .inr x=>.str x
inductive HO where
 |lst (xs:List V)
 |tup (xs:List V)
 |dK (kvs:List (Key × V)) | dT (kvs:List (List Key × V))
 |set (S:Int→Bool) (n:Nat)
 |ins (C dx:Addr) (fs:List (Str × V))
 |own (x:Addr)
 |xd (fs:List (Str × V))
 |met (f x:Addr)
 |rng (lo hi:Int)
 |frz (o:Obj) (u:HO)
 |tbl (ps:Array Value)
 |ext (φ:Heap→Prop)
abbrev Hp:=Addr→Option HO
def upd (H:Hp) (a:Addr) (o:HO):Hp:=fun b=>if b=a then some o else H b
theorem upd_same {H:Hp} {a:Addr} {o:HO}:upd H a o a=some o:=by unfold upd; rw [if_pos rfl]
theorem upd_ne {H:Hp} {a b:Addr} {o:HO} (h:b ≠ a):upd H a o b=H b:=by unfold upd; rw [if_neg h]
theorem upd_upd {H:Hp} {a:Addr} {o u:HO}:upd (upd H a o) a u=upd H a u:=by
 funext b; unfold upd; split <;> rfl
theorem ne_of {H:Hp} {a b:Addr} {o u:HO} (h:H a=some o) (h':H b=some u) (d:o ≠ u):a ≠ b:=by
 intro e; subst e; rw [h] at h'; exact d (Option.some.inj h')
theorem ne_of_none {H:Hp} {a b:Addr} {o:HO} (h:H a=some o) (h':H b=none):a ≠ b:=by
 intro e; subst e; rw [h] at h'; cases h'
section
variable (P:Program) (w:World)
def ObjOk (H:Hp) (h:Heap) (a:Addr):HO→Prop
 | .lst xs=>xs.length≤sizeLine∧∃ (its:List Value) (n:Nat),Vals xs its∧h.get? a=some { cls:=.type "list",data:=.seq its.toArray n }
 | .tup xs=>xs.length≤sizeLine∧∃ its:List Value,Vals xs its∧IsTup h a its.toArray
 | .dK kvs=>kvs.length≤sizeLine∧(a == sysModules)=false∧∃ vs,KV kvs vs∧h.DictOf (mixKind P w) a vs
 | .dT kvs=>kvs.length≤sizeLine∧(a == sysModules)=false∧∃ xs:List (List Key × Addr × Value),
   Paired (fun (p:List Key × V) (q:List Key × Addr × Value)=>p.1=q.1∧H q.2.1=some (.tup (p.1.map kV))∧RelV p.2 q.2.2) kvs xs∧
   ∃ o es ep,h.get? a=some o∧o.ExactDict∧o.data=.dict es ep∧es.toList=xs.map (entryOfKey (tupleKind (mixKind P w)))∧(xs.map (·.1)).Nodup
 | .set S n=>h.SetOf (intKind P w) a S n
 | .ins C dx fs=>H dx=some (.own a)∧fs.length≤1000∧dx ≠ a∧h.get? a=some (PySem.W.instObj C dx)∧
   ∃ mA,h.Ns1 dx mA∧(∀ f,RelO (fs.lookup f) (mA f))∧PySem.Within mA (fs.map (·.1))
 | .own _=>∃ o,h.get? a=some o
 | .xd fs=>∃ mA,h.Ns1 a mA∧∀ f,RelO (fs.lookup f) (mA f)
 | .rng lo hi=>∃ t u v,h.get? a=some { cls:=.type "range",data:=.fields #[.int lo t,.int hi u,.int 1 v] }
 | .frz o u=>h.get? a=some o∧ObjOk H h a u
 | .tbl ps=>h.get? a=some { cls:=.none,data:=.fields ps }
 | .met f x=>h.get? a=some (PySem.W.methodObj (.ref f) (.ref x))
 | .ext φ=>φ h∧(∃ o,h.get? a=some o)∧∀ h1 h2:Heap,φ h1→(∀ o,h1.get? a=some o→h2.get? a=some o)→φ h2
def HOk (H:Hp) (h:Heap):Prop:=∀ a o,H a=some o→ObjOk P w H h a o
end
section
variable {P:Program} {w:World} {H H':Hp} {h h':Heap} {a:Addr} {o:HO}
theorem ObjOk.lt (x:ObjOk P w H h a o):a < h.objs.size:=by
 cases o with
 |lst xs=>obtain ⟨_,_,_,_,e⟩:=x; exact Heap.lt_size e
 |tup xs=>obtain ⟨_,_,_,p⟩:=x; exact p.lt
 |dK kvs=>obtain ⟨_,_,_,_,o,_,_,e,_⟩:=x; exact Heap.lt_size e
 |dT kvs=>obtain ⟨_,_,_,_,o,_,_,e,_⟩:=x; exact Heap.lt_size e
 |set S n=>obtain ⟨o,_,_,_,e,_⟩:=x; exact Heap.lt_size e
 |ins C dx fs=>obtain ⟨_,_,_,e,_⟩:=x; exact Heap.lt_size e
 |own y=>obtain ⟨_,e⟩:=x; exact Heap.lt_size e
 |xd fs=>obtain ⟨_,⟨_,_,_,e,_⟩,_⟩:=x; exact Heap.lt_size e
 |rng lo hi=>obtain ⟨_,_,_,e⟩:=x; exact Heap.lt_size e
 |frz ob u=>obtain ⟨e,_⟩:=x; exact Heap.lt_size e
 |tbl ps=>exact Heap.lt_size (show h.get? a=some _ from x)
 |met f y=>exact Heap.lt_size (show h.get? a=some _ from x)
 |ext φ=>obtain ⟨_,⟨_,e⟩,_⟩:=x; exact Heap.lt_size e
theorem Paired.mapP {α β:Type} {F G:α→β→Prop}:∀ {l₁:List α} {l₂:List β},Paired F l₁ l₂→(∀ a b,F a b→G a b)→Paired G l₁ l₂
 |_,_,.nil,_=>.nil
 |_,_,.cons r t,f=>.cons (f _ _ r) (Paired.mapP t f)
theorem ObjOk.stay (x:ObjOk P w H h a o) (k:∀ b u,(b=a∨H b=some (.own a))→h.get? b=some u→h'.get? b=some u)
  (ho:∀ b,H b=some (.own a)→H' b=some (.own a)) (ht:∀ b xs,H b=some (.tup xs)→H' b=some (.tup xs)):ObjOk P w H' h' a o:=by
 induction o with
 |lst xs=>obtain ⟨z,its,n,r,e⟩:=x; exact ⟨z,its,n,r,k _ _ (.inl rfl) e⟩
 |tup xs=>obtain ⟨z,its,r,ob,e,c⟩:=x; exact ⟨z,its,r,ob,k _ _ (.inl rfl) e,c⟩
 |dK kvs=>obtain ⟨z,y,vs,r,ob,es,ep,e,c⟩:=x; exact ⟨z,y,vs,r,ob,es,ep,k _ _ (.inl rfl) e,c⟩
 |dT kvs=>
  obtain ⟨z,y,xs,r,ob,es,ep,e,c⟩:=x
  exact ⟨z,y,xs,Paired.mapP r fun p q z=>⟨z.1,ht _ _ z.2.1,z.2.2⟩,ob,es,ep,k _ _ (.inl rfl) e,c⟩
 |set S n=>obtain ⟨ob,es,ep,t,e,c⟩:=x; exact ⟨ob,es,ep,t,k _ _ (.inl rfl) e,c⟩
 |ins C dx fs=>
  obtain ⟨d,z,ne,e,mA,⟨od,es,ep,e2,c⟩,r⟩:=x
  exact ⟨ho _ d,z,ne,k _ _ (.inl rfl) e,mA,⟨od,es,ep,k _ _ (.inr d) e2,c⟩,r⟩
 |own y=>obtain ⟨ob,e⟩:=x; exact ⟨ob,k _ _ (.inl rfl) e⟩
 |xd fs=>obtain ⟨mA,⟨od,es,ep,e,c⟩,r⟩:=x; exact ⟨mA,⟨od,es,ep,k _ _ (.inl rfl) e,c⟩,r⟩
 |rng lo hi=>obtain ⟨t,u,v,e⟩:=x; exact ⟨t,u,v,k _ _ (.inl rfl) e⟩
 |frz ob u ih=>obtain ⟨e,q⟩:=x; exact ⟨k _ _ (.inl rfl) e,ih q⟩
 |tbl ps=>
  have e:h.get? a=some { cls:=.none,data:=.fields ps }:=x
  show h'.get? a=some { cls:=.none,data:=.fields ps }
  exact k a _ (.inl rfl) e
 |met f y=>
  have e:h.get? a=some (PySem.W.methodObj (.ref f) (.ref y)):=x
  show h'.get? a=some (PySem.W.methodObj (.ref f) (.ref y))
  exact k a _ (.inl rfl) e
 |ext φ=>obtain ⟨p,⟨o,e⟩,st⟩:=x; exact ⟨st _ _ p fun o q=>k _ _ (.inl rfl) q,⟨o,k _ _ (.inl rfl) e⟩,st⟩
theorem HOk.lt (x:HOk P w H h) (e:H a=some o):a < h.objs.size:=(x a o e).lt
theorem HOk.fresh (x:HOk P w H h) (e:h.objs.size≤a):H a=none:=by
 cases q:H a with
 |none=>rfl
 |some u=>exact absurd (Nat.lt_of_lt_of_le (x.lt q) e) (Nat.lt_irrefl _)
theorem HOk.kept (x:HOk P w H h) (k:∀ b u,h.get? b=some u→h'.get? b=some u):HOk P w H h':=fun a o e=>
 (x a o e).stay (fun b u _ q=>k b u q) (fun _ q=>q) fun _ _ q=>q
theorem HOk.laid (x:HOk P w H h) (k:∀ b u,h.get? b=some u→h'.get? b=some u) (hp:h.objs.size≤a) (new:ObjOk P w (upd H a o) h' a o):HOk P w (upd H a o) h':=fun b u e=>by
 have hn:=x.fresh hp
 by_cases hb:b=a
 ·subst hb; rw [upd_same] at e; cases e; exact new
 ·rw [upd_ne hb] at e
  exact (x b u e).stay (fun c v _ q=>k c v q) (fun c q=>by rw [upd_ne (ne_of_none q hn)]; exact q) fun c xs q=>by rw [upd_ne (ne_of_none q hn)]; exact q
end
def Rd (H:Hp) (a:Addr) (u:HO):Prop:=H a=some u∨∃ o,H a=some (.frz o u)
theorem Rd.ok {P:Program} {w:World} {H:Hp} {h:Heap} {a:Addr} {u:HO} (r:Rd H a u) (x:HOk P w H h):ObjOk P w H h a u:=by
 rcases r with r | ⟨o,r⟩
 ·exact x a u r
 ·obtain ⟨_,q⟩:=x a _ r
  exact q
def Mut:Option HO→Prop
 |some (.lst _)=>True
 |some (.dK _)=>True
 |some (.dT _)=>True
 |some (.set _ _)=>True
 |some (.ins _ _ _)=>True
 |some (.ext _)=>True
 |_=>False
section
variable {P:Program} {w:World} {H:Hp} {h h':Heap} {x e:Addr} {o':HO}
theorem HOk.write (ok:HOk P w H h) (mu:Mut (H x)) (he:e=x∨H e=some (.own x)) (k:∀ b u,b ≠ e→h.get? b=some u→h'.get? b=some u) (heo:∃ u,h'.get? e=some u)
  (new:ObjOk P w (upd H x o') h' x o'):HOk P w (upd H x o') h':=fun b u q=>by
 have nown:∀ c y,H c=some (.own y)→c ≠ x:=fun c y r z=>by subst z; rw [r] at mu; exact mu
 have ntup:∀ c xs,H c=some (.tup xs)→c ≠ x:=fun c xs r z=>by subst z; rw [r] at mu; exact mu
 by_cases hb:b=x
 ·subst hb; rw [upd_same] at q; cases q; exact new
 ·rw [upd_ne hb] at q
  by_cases hbe:b=e
  ·have q':H b=some (.own x):=by
    rcases he with z | z
    ·exact absurd (hbe.trans z) hb
    ·rw [hbe]; exact z
   rw [q] at q'; cases q'
   obtain ⟨v,hv⟩:=heo
   exact ⟨v,by rw [hbe]; exact hv⟩
  ·refine (ok b u q).stay (fun c v hc r=>k c v ?_ r) (fun c r=>by rw [upd_ne (nown c b r)]; exact r) fun c xs r=>by rw [upd_ne (ntup c xs r)]; exact r
   rcases hc with rfl | hc
   ·exact hbe
   ·rintro rfl
    rcases he with z | z
    ·exact nown c b hc z
    ·rw [hc] at z; cases z; exact hb rfl
end
structure Un (fs ex:List Addr) (H H':Hp) (h h':Heap):Prop where
 keep:∀ b o,h.get? b=some o→H b=none→b ∉ fs→b ∉ ex→h'.get? b=some o
 slot:∀ b o,h.get? b=some o→H b=none→b ∈ fs→b ∉ ex→∃ sl,h'.get? b=some { o with slots:=sl }
 free:∀ b o,h.get? b=some o→H b=none→b ∉ ex→H' b=none
 there:∀ b o,h.get? b=some o→b ∉ ex→∃ o',h'.get? b=some o'
 tups:∀ b xs,H b=some (.tup xs)→H' b=some (.tup xs)
 frzs:∀ b o u,H b=some (.frz o u)→H' b=some (.frz o u)
 tbls:∀ b ps,H b=some (.tbl ps)→∃ more,H' b=some (.tbl (ps ++ more))
section
variable {fs fs' ex ex':List Addr} {H H1 H2:Hp} {h h1 h2 h':Heap} {a x e:Addr} {o:HO}
theorem Un.any (u:Un fs ex H H1 h h1) {b:Addr} {ob:Obj} (q:h.get? b=some ob) (n:H b=none) (hx:b ∉ ex):∃ sl,h1.get? b=some { ob with slots:=sl }:=by
 by_cases hb:b ∈ fs
 ·exact u.slot b ob q n hb hx
 ·exact ⟨ob.slots,u.keep b ob q n hb hx⟩
theorem Un.kept (k:∀ b u,h.get? b=some u→h'.get? b=some u):Un fs ex H H h h':=
 ⟨fun b ob q _ _ _=>k b ob q,fun b ob q _ _ _=>⟨ob.slots,k b ob q⟩,fun _ _ _ n _=>n,fun b ob q _=>⟨ob,k b ob q⟩,fun _ _ q=>q,fun _ _ _ q=>q,fun _ ps q=>⟨#[],by rw [q]; simp⟩⟩
theorem Un.refl:Un fs ex H H h h:=Un.kept fun _ _ q=>q
theorem Un.laid (k:∀ b u,h.get? b=some u→h'.get? b=some u) (hp:h.objs.size≤a) (hn:H a=none):Un fs ex H (upd H a o) h h' where
 keep:=fun b u q _ _ _=>k b u q
 slot:=fun b u q _ _ _=>⟨u.slots,k b u q⟩
 free:=fun b u q n _=>by rw [upd_ne (Nat.ne_of_lt (Nat.lt_of_lt_of_le (Heap.lt_size q) hp))]; exact n
 there:=fun b u q _=>⟨u,k b u q⟩
 tups:=fun b xs q=>by rw [upd_ne (ne_of_none q hn)]; exact q
 frzs:=fun b u xs q=>by rw [upd_ne (ne_of_none q hn)]; exact q
 tbls:=fun b ps q=>⟨#[],by rw [upd_ne (ne_of_none q hn),q]; simp⟩
theorem Un.write (mu:Mut (H x)) (he:e=x∨H e=some (.own x)) (k:∀ b u,b ≠ e→h.get? b=some u→h'.get? b=some u) (heo:∃ u,h'.get? e=some u):Un fs ex H (upd H x o) h h':=by
 have hx:∀ b,H b=none→b ≠ x:=fun b n z=>by subst z; rw [n] at mu; exact mu
 have hb:∀ b,H b=none→b ≠ e:=fun b n z=>by
  subst z
  rcases he with r | r
  ·exact hx b n r
  ·rw [n] at r; cases r
 have hm:∀ b u,H b=some u→¬ Mut (some u)→b ≠ x:=fun b u q nm z=>by subst z; rw [q] at mu; exact nm mu
 refine ⟨fun b u q n _ _=>k b u (hb b n) q,fun b u q n _ _=>⟨u.slots,k b u (hb b n) q⟩,fun b u q n _=>by rw [upd_ne (hx b n)]; exact n,fun b u q _=>?_,
  fun b xs q=>by rw [upd_ne (hm b _ q fun z=>z)]; exact q,fun b u xs q=>by rw [upd_ne (hm b _ q fun z=>z)]; exact q,fun b ps q=>⟨#[],by rw [upd_ne (hm b _ q fun z=>z),q]; simp⟩⟩
 by_cases hbe:b=e
 ·subst hbe; exact heo
 ·exact ⟨u,k b u hbe q⟩
end
def trk (h:Heap) (H:Hp):List Addr:=(List.range h.objs.size).filter fun a=>(H a).isSome
def hidT (h:Heap) (H:Hp):Heap:=PySem.W.hideAll h (trk h H)
theorem hidT_size (h:Heap) (H:Hp):(hidT h H).objs.size=h.objs.size:=PySem.W.hideAll_size _ _
theorem hidT_get {h:Heap} {H:Hp} {b:Addr} {o:Obj} (e:h.get? b=some o) (n:H b=none):(hidT h H).get? b=some o:=
 PySem.W.hideAll_get _ e fun hm=>by
  have q:(H b).isSome=true:=(List.mem_filter.mp hm).2
  rw [n] at q; simp at q
theorem of_hidT {h:Heap} {H:Hp} {b:Addr} {o:Obj} (e:(hidT h H).get? b=some o):h.get? b=some o∧H b=none:=by
 have e':h.get? b=some o:=PySem.W.of_hideAll (trk h H) e
 refine ⟨e',?_⟩
 cases q:H b with
 |none=>rfl
 |some x=>
  have hm:b ∈ trk h H:=List.mem_filter.mpr ⟨List.mem_range.mpr (Heap.lt_size e'),by simp [q]⟩
  have z:(hidT h H).get? b=none:=PySem.W.hideAll_none (trk h H) hm
  rw [z] at e; cases e
end L2
namespace L2
open PySem PySem.Spec PyProof.Rows
structure Mod (K:PySem.W.Frag) (mg:Str→Option Value) (base:Heap):Prop where
 kin:K.In base
 glob:base.Ns mainGlobals mg
 blt:∃ mb,base.Ns builtinsNs mb∧∀ x:Str,x ≠ "__name__"→mb x=bootBuiltins x
 nolimit:base.NoLimit
structure Cx where
 prog:Program
 w:World
 K:PySem.W.Frag
 mg:Str→Option Value
 base:Heap
 A:Around
 N:List Str
 s_0:Shared
 H_0:Hp
 env:Env
 outer:List Env
 stack:List Env
 ex:List Addr
 fn:Str→Bool
 calm:Bool
 pn:List (Addr × Obj)
 xe:Value→Shared→Prop
def frs (l:List Env):List Addr:=l.filterMap (·.frame)
abbrev Cx.fs (X:Cx):List Addr:=frs X.outer
def Vis (sc:Scope) (x:Str):Prop:=sc.names.lookup x=some .local∨sc.names.lookup x=some .cell∨sc.names.lookup x=some .free
def Loc (sc:Scope) (x:Str):Prop:=sc.names.lookup x=some .local∨sc.names.lookup x=some .cell
def Look (env:Env) (h:Heap) (m:Str→Option Value) (x:Str) (u:Value):Prop:=
 (env.kindOf x=some .local∧m x=some u)∨((env.kindOf x=some .cell∨env.kindOf x=some .free)∧∃ c,env.cells.lookup x=some c∧h.IsCell c (some u))
structure Cx.Ok (X:Cx):Prop where
 mod:Mod X.K X.mg X.base
 kind:X.env.scope.kind=.function
 glob:X.env.globals=mainGlobals
 blt:X.env.builtins=builtinsNs
 above:X.s_0.heap.objs.size≤X.env.locals
 inj:∀ x y c,X.env.cells.lookup x=some c→X.env.cells.lookup y=some c→x=y
 has:∀ x,(X.env.kindOf x=some .cell∨X.env.kindOf x=some .free)→∃ c,X.env.cells.lookup x=some c
 cab:∀ x c,X.fn x=true→X.env.cells.lookup x=some c→X.s_0.heap.objs.size≤c
 hd:X.calm=true→X.A.handled=none
 frames:X.A.frames=some X.stack
 stk:X.stack=X.outer∨(X.stack=X.env::X.outer∧X.env.frame=some X.env.locals)
 exf:∀ b ∈ X.ex,b ≠ X.env.locals∧∀ x c,X.env.cells.lookup x=some c→c ≠ b
 bs:∀ b o,X.base.get? b=some o→X.s_0.heap.get? b=some o∧X.H_0 b=none
 bsz:X.base.objs.size≤X.s_0.heap.objs.size
 noex:∀ b o,X.base.get? b=some o→b ∉ X.ex
 exfs:∀ b ∈ X.ex,b ∉ X.fs
 funs:X.s_0.heap.FunFrames X.base X.outer
 frf:∀ b ∈ X.fs,X.H_0 b=none
structure Inv (X:Cx) (pins:List (Addr × Obj)) (σ:List (Option V)) (H:Hp) (s:Shared):Prop where
 ok:X.Ok
 os:s.os=X.s_0.os
 bare:AllBare s.gens
 base:Un X.fs X.ex X.H_0 H X.s_0.heap s.heap
 loc:∃ m,s.heap.Ns X.env.locals m∧∀ (i:Nat) (x:Str) (v:V),X.N[i]?=some x→σ[i]?=some (some v)→Vis X.env.scope x→∃ u,RelV v u∧Look X.env s.heap m x u
 cell:∀ x c,X.env.cells.lookup x=some c→∃ v,s.heap.IsCell c v
 free:H X.env.locals=none
 freeC:∀ x c,X.env.cells.lookup x=some c→H c=none
 pin:∀ p ∈ X.pn ++ pins,s.heap.get? p.1=some p.2∧H p.1=none∧p.1 ≠ X.env.locals∧p.1 ∉ X.fs∧∀ v,p.2.data ≠ .cell v
 hok:HOk X.prog X.w H s.heap
 len:σ.length=X.N.length
section
variable {X:Cx} {pins:List (Addr × Obj)} {σ:List (Option V)} {H H':Hp} {s:Shared} {h':Heap}
theorem Cx.Ok.nofr (ok:X.Ok) {b:Addr} {o:Obj} (e:X.base.get? b=some o):b ∉ X.fs:=fun hb=>by
 have:=(ok.funs.mem hb).1
 rw [e] at this; cases this
theorem Inv.bs (I:Inv X pins σ H s):∀ b o,X.base.get? b=some o→s.heap.get? b=some o∧H b=none:=fun b o e=>
 ⟨I.base.keep b o (I.ok.bs b o e).1 (I.ok.bs b o e).2 (I.ok.nofr e) (I.ok.noex b o e),I.base.free b o (I.ok.bs b o e).1 (I.ok.bs b o e).2 (I.ok.noex b o e)⟩
theorem Inv.bk (I:Inv X pins σ H s):∀ b o,X.base.get? b=some o→s.heap.get? b=some o:=fun b o e=>(I.bs b o e).1
theorem Inv.mod (I:Inv X pins σ H s):Mod X.K X.mg X.base:=I.ok.mod
theorem Inv.kIn (I:Inv X pins σ H s):X.K.In s.heap:=I.ok.mod.kin.keeps I.bk
theorem Inv.lt (I:Inv X pins σ H s):X.env.locals < s.heap.objs.size:=let ⟨_,hn,_⟩:=I.loc; hn.lt
theorem Inv.sz (I:Inv X pins σ H s):X.s_0.heap.objs.size≤s.heap.objs.size:=Nat.le_trans I.ok.above (Nat.le_of_lt I.lt)
theorem Inv.nofs (I:Inv X pins σ H s) {a:Addr} (h:s.heap.objs.size≤a):a ∉ X.fs:=fun hb=>by
 obtain ⟨_,o,ho,_⟩:=I.ok.funs.mem hb
 exact absurd (Nat.lt_of_lt_of_le (Heap.lt_size ho) (Nat.le_trans I.sz h)) (Nat.lt_irrefl _)
theorem Inv.cne (I:Inv X pins σ H s):∀ x c,X.env.cells.lookup x=some c→c ≠ X.env.locals:=fun x c e z=>by
 obtain ⟨v,o,ho,hd⟩:=I.cell x c e
 obtain ⟨m,⟨o',es,ep,ho',hd',_⟩,_⟩:=I.loc
 rw [z,ho'] at ho; cases ho; rw [hd'] at hd; cases hd
theorem Inv.funs (I:Inv X pins σ H s):s.heap.FunFrames X.base X.outer:=by
 have all:∀ (l:List Env),(∀ b ∈ frs l,b ∈ X.fs)→X.s_0.heap.FunFrames X.base l→s.heap.FunFrames X.base l:=by
  intro l
  induction l with
  |nil=>intro _ _; trivial
  |cons env r ih=>
   intro hs hl
   obtain ⟨hk,⟨L,o,hf,hn,ho,hd⟩,hr⟩:=hl
   have hL:L ∈ X.fs:=hs L (by unfold frs; rw [List.filterMap_cons,hf]; exact List.mem_cons_self)
   obtain ⟨sl,e⟩:=I.base.slot L o ho (I.ok.frf L hL) hL fun z=>I.ok.exfs L z hL
   exact ⟨hk,⟨L,_,hf,hn,e,hd⟩,ih (fun b hb=>hs b (by unfold frs; rw [List.filterMap_cons,hf]; exact List.mem_cons_of_mem _ hb)) hr⟩
 exact all X.outer (fun _ hb=>hb) I.ok.funs
theorem Inv.stack (I:Inv X pins σ H s):s.heap.FunFrames X.base X.stack:=by
 rcases I.ok.stk with e | ⟨e,hf⟩
 ·rw [e]; exact I.funs
 ·rw [e]
  obtain ⟨m,hn,_⟩:=I.loc
  refine .cons (by rw [I.ok.kind]; decide) hf hn ?_ I.funs
  exact Heap.get?_none_of_le (Nat.le_trans I.ok.bsz I.ok.above)
theorem Inv.stkSub (I:Inv X pins σ H s):∀ b ∈ frs X.stack,b ∈ X.env.locals::X.fs:=fun b hb=>by
 rcases I.ok.stk with e | ⟨e,hf⟩
 ·rw [e] at hb; exact List.mem_cons_of_mem _ hb
 ·rw [e] at hb
  unfold frs at hb
  rw [List.filterMap_cons,hf] at hb
  exact hb
theorem Inv.stkFree (I:Inv X pins σ H s):∀ b ∈ frs X.stack,H b=none:=fun b hb=>by
 rcases List.mem_cons.mp (I.stkSub b hb) with e | hb
 ·rw [e]; exact I.free
 ·obtain ⟨_,o,ho,_⟩:=I.ok.funs.mem hb
  exact I.base.free b o ho (I.ok.frf b hb) fun z=>I.ok.exfs b z hb
theorem Inv.step {g':Array GenState} {t':Nat} {d':Drawn} {ch:List Addr} (I:Inv X pins σ H s)
  (hch:∀ b ∈ ch,(b ∈ X.ex∨X.s_0.heap.objs.size≤b)∧b ≠ X.env.locals∧(∀ x c,X.env.cells.lookup x=some c→c ≠ b)∧∀ p ∈ X.pn ++ pins,p.1 ≠ b)
  (keep:∀ b o,b ≠ X.env.locals→b ∉ X.fs→b ∉ ch→s.heap.get? b=some o→H b=none→h'.get? b=some o)
  (slot:∀ b o,b ≠ X.env.locals→b ∈ X.fs→b ∉ ch→s.heap.get? b=some o→H b=none→∃ sl,h'.get? b=some { o with slots:=sl }) (free:∀ b o,b ∉ ch→s.heap.get? b=some o→H b=none→H' b=none)
  (there:∀ b o,b ∉ ch→s.heap.get? b=some o→∃ o',h'.get? b=some o')
  (tups:∀ b xs,H b=some (.tup xs)→H' b=some (.tup xs)) (frzs:∀ b o u,H b=some (.frz o u)→H' b=some (.frz o u)) (tbls:∀ b ps,H b=some (.tbl ps)→∃ more,H' b=some (.tbl (ps ++ more)))
  (ns:∀ m,s.heap.Ns X.env.locals m→h'.Ns X.env.locals m) (hok:HOk X.prog X.w H' h') (hg:AllBare g') :
  Inv X pins σ H' { s with heap:=h',gens:=g',drawn:=d',toks:=t' }:=by
 have neL:∀ b o,X.s_0.heap.get? b=some o→b ≠ X.env.locals:=fun b o e=>Nat.ne_of_lt (Nat.lt_of_lt_of_le (Heap.lt_size e) I.ok.above)
 have neC:∀ b o,X.s_0.heap.get? b=some o→b ∉ X.ex→b ∉ ch:=fun b o e hx hb=>by
  rcases (hch b hb).1 with z | z
  ·exact hx z
  ·exact absurd (Nat.lt_of_lt_of_le (Heap.lt_size e) z) (Nat.lt_irrefl _)
 have cellK:∀ x c,X.env.cells.lookup x=some c→∀ v,s.heap.IsCell c v→h'.IsCell c v:=fun x c e v ⟨o,ho,hd⟩=>by
  have nch:c ∉ ch:=fun z=>(hch c z).2.2.1 x c e rfl
  by_cases hc:c ∈ X.fs
  ·obtain ⟨sl,q⟩:=slot c o (I.cne x c e) hc nch ho (I.freeC x c e)
   exact ⟨_,q,hd⟩
  ·exact ⟨o,keep c o (I.cne x c e) hc nch ho (I.freeC x c e),hd⟩
 refine ⟨I.ok,I.os,hg,⟨fun b o e n hb hx=>?_,fun b o e n hb hx=>?_,fun b o e n hx=>?_,fun b o e hx=>?_,fun b xs e=>tups b xs (I.base.tups b xs e),fun b o xs e=>frzs b o xs (I.base.frzs b o xs e),fun b ps e=>?_⟩,?_,fun x c e=>?_,?_,fun x c e=>?_,fun p hp=>?_,hok,I.len⟩
 ·exact keep b o (neL b o e) hb (neC b o e hx) (I.base.keep b o e n hb hx) (I.base.free b o e n hx)
 ·obtain ⟨sl,e1⟩:=I.base.slot b o e n hb hx
  obtain ⟨sl',e2⟩:=slot b _ (neL b o e) hb (neC b o e hx) e1 (I.base.free b o e n hx)
  exact ⟨sl',e2⟩
 ·obtain ⟨o',e1⟩:=I.base.there b o e hx
  exact free b o' (neC b o e hx) e1 (I.base.free b o e n hx)
 ·obtain ⟨o',e1⟩:=I.base.there b o e hx
  exact there b o' (neC b o e hx) e1
 ·obtain ⟨m1,e1⟩:=I.base.tbls b ps e
  obtain ⟨m2,e2⟩:=tbls b _ e1
  exact ⟨m1 ++ m2,by rw [e2,Array.append_assoc]⟩
 ·obtain ⟨m,hn,hl⟩:=I.loc
  refine ⟨m,ns m hn,fun i x v e1 e2 e3=>?_⟩
  obtain ⟨u,r,l⟩:=hl i x v e1 e2 e3
  refine ⟨u,r,?_⟩
  rcases l with l | ⟨k,c,e,z⟩
  ·exact .inl l
  ·exact .inr ⟨k,c,e,cellK x c e _ z⟩
 ·obtain ⟨v,z⟩:=I.cell x c e
  exact ⟨v,cellK x c e v z⟩
 ·obtain ⟨m,⟨o,_,_,ho,_⟩,_⟩:=I.loc
  exact free _ o (fun z=>(hch _ z).2.1 rfl) ho I.free
 ·obtain ⟨v,o,ho,hd⟩:=I.cell x c e
  exact free c o (fun z=>(hch c z).2.2.1 x c e rfl) ho (I.freeC x c e)
 ·obtain ⟨e,n,ne,nf,d⟩:=I.pin p hp
  have nch:p.1 ∉ ch:=fun z=>(hch p.1 z).2.2.2 p hp rfl
  exact ⟨keep p.1 p.2 ne nf nch e n,free p.1 p.2 nch e n,ne,nf,d⟩
theorem Inv.un {t':Nat} (I:Inv X pins σ H s) (u:Un X.fs [] H H' s.heap h') (hok:HOk X.prog X.w H' h'):Inv X pins σ H' { s with heap:=h',toks:=t' }:=by
 obtain ⟨m,⟨o,es,ep,ho,r⟩,_⟩:=id I.loc
 obtain ⟨sl,hL⟩:=u.any ho I.free (by simp)
 exact I.step (g':=s.gens) (d':=s.drawn) (ch:=[]) (fun _ z=>nomatch z) (fun b o _ hb _ e n=>u.keep b o e n hb (by simp)) (fun b o _ hb _ e n=>u.slot b o e n hb (by simp)) (fun b o _ e n=>u.free b o e n (by simp)) (fun b o _ e=>u.there b o e (by simp)) u.tups u.frzs u.tbls (fun m' hm=>by
  obtain ⟨o',es',ep',ho',r'⟩:=hm
  rw [ho] at ho'; cases ho'
  exact ⟨_,es',ep',hL,r'⟩) hok I.bare
theorem Inv.call {g':Array GenState} {t':Nat} {d':Drawn} {ch:List Addr} (I:Inv X pins σ H s) (u:Un (frs X.stack) ch H H' s.heap h') (hok:HOk X.prog X.w H' h') (hg:AllBare g')
  (hch:∀ b ∈ ch,(b ∈ X.ex∨X.s_0.heap.objs.size≤b)∧b ≠ X.env.locals∧(∀ x c,X.env.cells.lookup x=some c→c ≠ b)∧∀ p ∈ X.pn ++ pins,p.1 ≠ b) :
  Inv X pins σ H' { s with heap:=h',gens:=g',drawn:=d',toks:=t' }:=by
 obtain ⟨m,⟨o,es,ep,ho,r⟩,_⟩:=id I.loc
 obtain ⟨sl,hL⟩:=u.any ho I.free fun z=>(hch _ z).2.1 rfl
 exact I.step (ch:=ch) hch (fun b o hL hb hc e n=>u.keep b o e n (fun z=>(List.mem_cons.mp (I.stkSub b z)).elim hL hb) hc) (fun b o _ _ hc e n=>u.any e n hc) (fun b o hc e n=>u.free b o e n hc) (fun b o hc e=>u.there b o e hc) u.tups u.frzs u.tbls (fun m' hm=>by
  obtain ⟨o',es',ep',ho',r'⟩:=hm
  rw [ho] at ho'; cases ho'
  exact ⟨_,es',ep',hL,r'⟩) hok hg
theorem Inv.turned {t':Nat} {it:Addr} (I:Inv X pins σ H s) (k:∀ b o,b ≠ it→s.heap.get? b=some o→h'.get? b=some o) (hn:H it=none) (hL:it ≠ X.env.locals)
  (h1:it ∈ X.ex∨X.s_0.heap.objs.size≤it) (h2:∀ x c,X.env.cells.lookup x=some c→c ≠ it) (h3:∀ p ∈ X.pn ++ pins,p.1 ≠ it):Inv X pins σ H { s with heap:=h',toks:=t' }:=by
 have nit:∀ b u,H b=some u→b ≠ it:=fun b u e z=>by rw [z,hn] at e; cases e
 refine I.step (g':=s.gens) (d':=s.drawn) (ch:=[it]) (fun b hb=>?_) (fun b o _ _ hc e _=>k b o (fun z=>hc (by simp [z])) e) (fun b o _ _ hc e _=>⟨o.slots,k b o (fun z=>hc (by simp [z])) e⟩) (fun _ _ _ _ n=>n)
  (fun b o hc e=>⟨o,k b o (fun z=>hc (by simp [z])) e⟩) (fun _ _ e=>e) (fun _ _ _ e=>e) (fun b ps e=>⟨#[],by rw [e]; simp⟩) (fun m hm=>?_) (fun b u e=>?_) I.bare
 ·have e:b=it:=by simpa using hb
  subst e
  exact ⟨h1,hL,h2,h3⟩
 ·obtain ⟨o,es,ep,ho,r⟩:=hm
  exact ⟨o,es,ep,k _ o (Ne.symm hL) ho,r⟩
 ·refine (I.hok b u e).stay (fun c v hc q=>k c v ?_ q) (fun _ q=>q) fun _ _ q=>q
  rcases hc with z | z
  ·rw [z]; exact nit b u e
  ·exact nit c _ z
theorem Inv.tok (I:Inv X pins σ H s) (t:Nat):Inv X pins σ H { s with toks:=t }:=I.un (h':=s.heap) (t':=t) Un.refl I.hok
theorem Inv.kept {t':Nat} (I:Inv X pins σ H s) (k:∀ b u,s.heap.get? b=some u→h'.get? b=some u):Inv X pins σ H { s with heap:=h',toks:=t' }:=I.un (Un.kept k) (I.hok.kept k)
theorem Inv.laid {a:Addr} {o:HO} {t':Nat} (I:Inv X pins σ H s) (k:∀ b u,s.heap.get? b=some u→h'.get? b=some u) (hp:s.heap.objs.size≤a) (new:ObjOk X.prog X.w (upd H a o) h' a o) :
  Inv X pins σ (upd H a o) { s with heap:=h',toks:=t' }:=I.un (Un.laid k hp (I.hok.fresh hp)) (I.hok.laid k hp new)
theorem Inv.write {x e:Addr} {o:HO} {t':Nat} (I:Inv X pins σ H s) (mu:Mut (H x)) (he:e=x∨H e=some (.own x)) (k:∀ b u,b ≠ e→s.heap.get? b=some u→h'.get? b=some u) (heo:∃ u,h'.get? e=some u)
  (new:ObjOk X.prog X.w (upd H x o) h' x o):Inv X pins σ (upd H x o) { s with heap:=h',toks:=t' }:=I.un (Un.write mu he k heo) (I.hok.write mu he k heo new)
theorem Inv.weak {σ':List (Option V)} (I:Inv X pins σ H s) (hl:σ'.length=σ.length) (w:∀ (i:Nat) v,σ'[i]?=some (some v)→σ[i]?=some (some v)):Inv X pins σ' H s:=
 ⟨I.ok,I.os,I.bare,I.base,let ⟨m,hn,hl'⟩:=I.loc; ⟨m,hn,fun i x v e1 e2 e3=>hl' i x v e1 (w i v e2) e3⟩,I.cell,I.free,I.freeC,I.pin,I.hok,hl.trans I.len⟩
theorem Inv.pins_of {pins':List (Addr × Obj)} (I:Inv X pins σ H s) (h:∀ p ∈ pins',s.heap.get? p.1=some p.2∧H p.1=none∧p.1 ≠ X.env.locals∧p.1 ∉ X.fs∧∀ v,p.2.data ≠ .cell v):Inv X pins' σ H s:=
 ⟨I.ok,I.os,I.bare,I.base,I.loc,I.cell,I.free,I.freeC,fun p hp=>(List.mem_append.mp hp).elim (fun z=>I.pin p (List.mem_append_left _ z)) (h p),I.hok,I.len⟩
theorem nodup_ix {N:List Str} (hN:N.Nodup) {i j:Nat} {x:Str} (a:N[i]?=some x) (b:N[j]?=some x):i=j:=by
 obtain ⟨h1,e1⟩:=List.getElem?_eq_some_iff.mp a
 obtain ⟨h2,e2⟩:=List.getElem?_eq_some_iff.mp b
 exact (List.getElem_inj hN).mp (e1.trans e2.symm)
theorem store_ok2 {M:Model} {A:Around} {E:Value→Shared→Prop} {i:Nat} {x:Str} {v:V} {u:Value} {Q:Unit→Shared→Prop} (I:Inv X pins σ H s) (hN:X.N.Nodup) (hi:X.N[i]?=some x) (hx:Loc X.env.scope x) (r:RelV v u)
  (h:∀ s',Inv X pins (σ.set i (some v)) H s'→(∃ a,Heap.SameBut a s.heap s'.heap∧(a=X.env.locals∨X.env.cells.lookup x=some a))→Q () s') (hf:X.fn x=true∨X.env.scope.names.lookup x=some .local:=by first | exact .inl rfl | exact .inr rfl | assumption):wpAny M A (storeName X.env x u) Q E s:=by
 obtain ⟨m,hn,hl⟩:=id I.loc
 have hcls:(X.env.scope.kind == .class || (X.env.scope.kind == .module && X.env.locals != X.env.globals))=false:=by rw [I.ok.kind]; rfl
 have hiσ:i < σ.length:=by rw [I.len]; exact (List.getElem?_eq_some_iff.mp hi).1
 have cne:=I.cne
 have tracked:∀ {a:Addr} {h':Heap},(∃ o,s.heap.get? a=some o∧H a=none)→Heap.SameBut a s.heap h'→HOk X.prog X.w H h':=fun {a h'} ha hs b ob e=>by
  obtain ⟨_,_,hfree⟩:=ha
  refine (I.hok b ob e).stay (fun c w' hc q=>(hs.2 c ?_).trans q) (fun _ q=>q) fun _ _ q=>q
  rintro rfl
  rcases hc with rfl | hc
  ·rw [hfree] at e; cases e
  ·rw [hfree] at hc; cases hc
 rcases hx with hk | hk
 ·refine wpAny_storeName_local hk hn (fun h' hn' hs=>?_) hcls
  obtain ⟨oL,_,_,hoL,_⟩:=id hn
  refine h _ ⟨I.ok,I.os,I.bare,⟨fun b o e n hb hx=>?_,fun b o e n hb hx=>?_,I.base.free,fun b o e hx=>?_,I.base.tups,I.base.frzs,I.base.tbls⟩,⟨_,hn',fun j y v' e1 e2 e3=>?_⟩,fun y c e=>?_,I.free,I.freeC,fun p hp=>?_,tracked ⟨oL,hoL,I.free⟩ hs,by simpa using I.len⟩ ⟨_,hs,.inl rfl⟩
  ·exact (hs.2 b (Nat.ne_of_lt (Nat.lt_of_lt_of_le (Heap.lt_size e) I.ok.above))).trans (I.base.keep b o e n hb hx)
  ·obtain ⟨sl,e1⟩:=I.base.slot b o e n hb hx
   exact ⟨sl,(hs.2 b (Nat.ne_of_lt (Nat.lt_of_lt_of_le (Heap.lt_size e) I.ok.above))).trans e1⟩
  ·obtain ⟨o',e1⟩:=I.base.there b o e hx
   exact ⟨o',(hs.2 b (Nat.ne_of_lt (Nat.lt_of_lt_of_le (Heap.lt_size e) I.ok.above))).trans e1⟩
  ·by_cases hj:j=i
   ·subst hj
    rw [hi] at e1; cases e1
    rw [List.getElem?_set_self hiσ] at e2
    cases e2
    exact ⟨u,r,.inl ⟨hk,by simp⟩⟩
   ·rw [List.getElem?_set_ne (Ne.symm hj)] at e2
    obtain ⟨u',r',q⟩:=hl j y v' e1 e2 e3
    refine ⟨u',r',?_⟩
    rcases q with ⟨k,e⟩ | ⟨k,c,e,z⟩
    ·refine .inl ⟨k,?_⟩
     have:y ≠ x:=fun e=>hj (nodup_ix hN e1 (e ▸ hi))
     simp [this,e]
    ·exact .inr ⟨k,c,e,z.sameBut hs (cne y c e)⟩
  ·obtain ⟨w',z⟩:=I.cell y c e
   exact ⟨w',z.sameBut hs (cne y c e)⟩
  ·obtain ⟨e,n,ne,nf,d⟩:=I.pin p hp
   exact ⟨(hs.2 p.1 ne).trans e,n,ne,nf,d⟩
 ·have hfn:X.fn x=true:=by
   rcases hf with z | z
   ·exact z
   ·rw [z] at hk; cases hk
  obtain ⟨c,hc⟩:=I.ok.has x (.inl hk)
  obtain ⟨w',z⟩:=I.cell x c hc
  refine wpAny_storeName_cell I.ok.kind hk hc z (fun h' hc' hs=>?_)
  obtain ⟨oc,hoc,hocd⟩:=id z
  refine h { s with heap:=h' } ⟨I.ok,I.os,I.bare,⟨fun b o e n hb hx=>?_,fun b o e n hb hx=>?_,I.base.free,fun b o e hx=>?_,I.base.tups,I.base.frzs,I.base.tbls⟩,⟨m,hn.sameBut hs (Ne.symm (cne x c hc)),fun j y v' e1 e2 e3=>?_⟩,fun y c' e=>?_,I.free,I.freeC,fun p hp=>?_,tracked ⟨oc,hoc,I.freeC x c hc⟩ hs,by simpa using I.len⟩ ⟨c,hs,.inr hc⟩
  ·exact (hs.2 b (Nat.ne_of_lt (Nat.lt_of_lt_of_le (Heap.lt_size e) (I.ok.cab x c hfn hc)))).trans (I.base.keep b o e n hb hx)
  ·obtain ⟨sl,e1⟩:=I.base.slot b o e n hb hx
   exact ⟨sl,(hs.2 b (Nat.ne_of_lt (Nat.lt_of_lt_of_le (Heap.lt_size e) (I.ok.cab x c hfn hc)))).trans e1⟩
  ·obtain ⟨o',e1⟩:=I.base.there b o e hx
   exact ⟨o',(hs.2 b (Nat.ne_of_lt (Nat.lt_of_lt_of_le (Heap.lt_size e) (I.ok.cab x c hfn hc)))).trans e1⟩
  ·by_cases hj:j=i
   ·subst hj
    rw [hi] at e1; cases e1
    rw [List.getElem?_set_self hiσ] at e2
    cases e2
    exact ⟨u,r,.inr ⟨.inl hk,c,hc,hc'⟩⟩
   ·rw [List.getElem?_set_ne (Ne.symm hj)] at e2
    obtain ⟨u',r',q⟩:=hl j y v' e1 e2 e3
    refine ⟨u',r',?_⟩
    rcases q with q | ⟨k,c',e,z'⟩
    ·exact .inl q
    ·refine .inr ⟨k,c',e,z'.sameBut hs ?_⟩
     rintro rfl
     exact hj (nodup_ix hN e1 (I.ok.inj _ _ _ e hc ▸ hi))
  ·by_cases hcc:c'=c
   ·subst hcc; exact ⟨_,hc'⟩
   ·obtain ⟨w2,z2⟩:=I.cell y c' e
    exact ⟨w2,z2.sameBut hs hcc⟩
  ·obtain ⟨e,n,ne,nf,d⟩:=I.pin p hp
   refine ⟨(hs.2 p.1 ?_).trans e,n,ne,nf,d⟩
   intro q
   rw [q,hoc] at e
   have q':oc=p.2:=Option.some.inj e
   exact d w' (by rw [← q']; exact hocd)
theorem store_ok {M:Model} {A:Around} {E:Value→Shared→Prop} {i:Nat} {x:Str} {v:V} {u:Value} {Q:Unit→Shared→Prop} (I:Inv X pins σ H s) (hN:X.N.Nodup) (hi:X.N[i]?=some x) (hx:Loc X.env.scope x) (r:RelV v u)
  (h:∀ s',Inv X pins (σ.set i (some v)) H s'→Q () s') (hf:X.fn x=true∨X.env.scope.names.lookup x=some .local:=by first | exact .inl rfl | exact .inr rfl | assumption):wpAny M A (storeName X.env x u) Q E s:=
 store_ok2 I hN hi hx r (fun s' I' _=>h s' I') hf
theorem Inv.call' {s':Shared} {ch:List Addr} (I:Inv X pins σ H s) (ho:s'.os=s.os) (u:Un (frs X.stack) ch H H' s.heap s'.heap) (hok:HOk X.prog X.w H' s'.heap) (hg:AllBare s'.gens)
  (hch:∀ b ∈ ch,(b ∈ X.ex∨X.s_0.heap.objs.size≤b)∧b ≠ X.env.locals∧(∀ x c,X.env.cells.lookup x=some c→c ≠ b)∧∀ p ∈ X.pn ++ pins,p.1 ≠ b):Inv X pins σ H' s':=by
 obtain ⟨h',g',d',t',o'⟩:=s'
 have e:o'=s.os:=ho
 subst e
 exact I.call (g':=g') (t':=t') (d':=d') u hok hg hch
end
abbrev XK:=Value→Option Addr→Hp→Prop
abbrev St:=List (Option V)
abbrev VK:=V→Hp→Prop
abbrev TE:=St→Hp→VK→Prop
abbrev TT:=St→Hp→(Bool→Hp→Prop)→Prop
abbrev TA:=St→Hp→(List V→Hp→Prop)→Prop
structure Ends where
 nx:St→Hp→Prop
 rt:VK
 bk:St→Hp→Prop:=fun _ _=>False
 ct:St→Hp→Prop:=fun _ _=>False
abbrev TS:=Ends→St→Hp→Prop
def EP (X:Cx) (pins:List (Addr × Obj)) (σ:St) (Q:VK) (u:Value) (s':Shared):Prop:=∃ v H',Inv X pins σ H' s'∧RelV v u∧Q v H'
def TP (X:Cx) (pins:List (Addr × Obj)) (σ:St) (Q:Bool→Hp→Prop) (b:Bool) (s':Shared):Prop:=∃ H',Inv X pins σ H' s'∧Q b H'
def AP (X:Cx) (pins:List (Addr × Obj)) (σ:St) (Q:List V→Hp→Prop) (us:List Value) (s':Shared):Prop:=∃ vs H',Inv X pins σ H' s'∧Vals vs us∧Q vs H'
def SP (X:Cx) (pins:List (Addr × Obj)) (D:Ends) (f:Flow) (s':Shared):Prop:=
 match f with
 | .next=>∃ σ' H',Inv X pins σ' H' s'∧D.nx σ' H'
 | .brk=>∃ σ' H',Inv X pins σ' H' s'∧D.bk σ' H'
 | .cont=>∃ σ' H',Inv X pins σ' H' s'∧D.ct σ' H'
 | .ret u=>∃ v σ' H',Inv X pins σ' H' s'∧RelV v u∧D.rt v H'
def PE (X:Cx) (e:Expr) (t:TE):Prop:=
 ∀ (pins:List (Addr × Obj)) (s:Shared) (σ:St) (H:Hp) (Q:VK),Inv X pins σ H s→t σ H Q→wpAny (model X.prog X.w) X.A (eval e X.env) (EP X pins σ Q) X.xe s
def PT (X:Cx) (e:Expr) (t:TT):Prop:=
 ∀ (pins:List (Addr × Obj)) (s:Shared) (σ:St) (H:Hp) (Q:Bool→Hp→Prop),Inv X pins σ H s→t σ H Q→wpAny (model X.prog X.w) X.A (isTrue e X.env (eval e X.env)) (TP X pins σ Q) X.xe s
def PW (X:Cx) (e:Expr) (t:TT):Prop:=
 ∀ (whole:Sem Value) (pins:List (Addr × Obj)) (s:Shared) (σ:St) (H:Hp) (Q:Bool→Hp→Prop),Inv X pins σ H s→t σ H Q→wpAny (model X.prog X.w) X.A (isTrue e X.env whole) (TP X pins σ Q) X.xe s
theorem PW.pt {X:Cx} {e:Expr} {t:TT} (h:PW X e t):PT X e t:=h _
def PA (X:Cx) (es:List Expr) (t:TA):Prop:=
 ∀ (pos:Pos) (pins:List (Addr × Obj)) (s:Shared) (σ:St) (H:Hp) (Q:List V→Hp→Prop),Inv X pins σ H s→t σ H Q→wpAny (model X.prog X.w) X.A (spliced (backTo pos (starEach es X.env))) (AP X pins σ Q) X.xe s
def PS (X:Cx) (st:Stmt) (t:TS):Prop:=
 ∀ (pins:List (Addr × Obj)) (s:Shared) (σ:St) (H:Hp) (D:Ends),Inv X pins σ H s→t D σ H→wpAny (model X.prog X.w) X.A (exec st X.env) (SP X pins D) X.xe s
def PSs (X:Cx) (st:List Stmt) (t:TS):Prop:=
 ∀ (pins:List (Addr × Obj)) (s:Shared) (σ:St) (H:Hp) (D:Ends),Inv X pins σ H s→t D σ H→wpAny (model X.prog X.w) X.A (execs st X.env) (SP X pins D) X.xe s
theorem thn {α:Type} {t:Sem α} {Q Q':α→Shared→Prop} {M:Model} {A:Around} {E:Value→Shared→Prop} {s:Shared} (h:wpAny M A t Q E s) (hQ:∀ a s,Q a s→Q' a s):wpAny M A t Q' E s:=wpAny_mono h hQ fun _ _ x=>x
end L2
namespace L2
open PySem PySem.Spec PyProof.Rows
section
variable {X:Cx}
def tVar (i:Nat):TE:=fun σ H Q=>∃ v,σ[i]?=some (some v)∧Q v H
def tC (v:V):TE:=fun _ H Q=>Q v H
theorem pe_var {i:Nat} {x:Str} {pos:Pos} (hN:X.N[i]?=some x) (hv:Vis X.env.scope x) (hd:(x == ("__debug__":Str))=false:=by decide) (hcd:(x == ("__classdict__":Str))=false:=by decide):PE X (.Name x pos) (tVar i):=by
 intro pins s σ H Q I h
 obtain ⟨v,e,h⟩:=h
 obtain ⟨m,hn,hl⟩:=I.loc
 obtain ⟨u,r,l⟩:=hl i x v hN e hv
 have fin:EP X pins σ Q u s:=⟨v,H,I,r,h⟩
 rcases l with ⟨hk,hm⟩ | ⟨hk,c,hc,hcell⟩
 ·exact wpAny_Name (wpAny_loadName_local I.ok.kind hk hn hm fin) hd
 ·rcases hk with hk | hk
  ·exact wpAny_Name (wpAny_loadName_cell I.ok.kind hk hc hcell fin) hd
  ·exact wpAny_Name (wpAny_loadName_free I.ok.kind hk hc hcell fin hcd) hd
theorem pe_int {i j pos}:PE X (.Constant (.int i) j pos) (tC (.int i)):=fun _ _ _ H _ I h=>wpAny_Constant_int ⟨.int i,H,I.tok _,⟨_,rfl⟩,h⟩
theorem pe_bl {b j pos}:PE X (.Constant (.bool b) j pos) (tC (.bl b)):=fun _ _ _ H _ I h=>Constant_bool ⟨.bl b,H,I,rfl,h⟩
theorem pe_non {j pos}:PE X (.Constant .none j pos) (tC .non):=fun _ _ _ H _ I h=>Constant_none ⟨.non,H,I,rfl,h⟩
def Gl (X:Cx) (x:Str):Prop:=X.env.kindOf x=some .globalImplicit
theorem ld_glob {E:Value→Shared→Prop} {pins:List (Addr × Obj)} {s:Shared} {σ:St} {H:Hp} {x:Str} {u:Value} {pos:Pos} {Q:Value→Shared→Prop} (I:Inv X pins σ H s) (hg:Gl X x) (hm:X.mg x=some u) (h:Q u s)
  (hd:(x == ("__debug__":Str))=false:=by decide):wpAny (model X.prog X.w) X.A (eval (.Name x pos) X.env) Q E s:=
 Calls.Name_function_global I.ok.kind hg (Calls.loadGlobal_global (by rw [I.ok.glob]; exact I.mod.glob.keeps I.bk) hm h) hd
theorem ld_blt {E:Value→Shared→Prop} {pins:List (Addr × Obj)} {s:Shared} {σ:St} {H:Hp} {x:Str} {u:Value} {pos:Pos} {Q:Value→Shared→Prop} (I:Inv X pins σ H s) (hg:Gl X x) (hm:X.mg x=none) (hv:bootBuiltins x=some u) (h:Q u s)
  (hn:x ≠ "__name__":=by decide) (hd:(x == ("__debug__":Str))=false:=by decide):wpAny (model X.prog X.w) X.A (eval (.Name x pos) X.env) Q E s:=by
 obtain ⟨mb,h1,h2⟩:=I.mod.blt
 exact Calls.Name_function_global I.ok.kind hg (Calls.loadGlobal_builtin (by rw [I.ok.glob]; exact I.mod.glob.keeps I.bk) hm (by rw [I.ok.blt]; exact h1.keeps I.bk) ((h2 x hn).trans hv) h) hd
theorem pe_glob {x:Str} {v:V} {u:Value} {pos:Pos} (hg:Gl X x) (hm:X.mg x=some u) (r:RelV v u) (hd:(x == ("__debug__":Str))=false:=by decide):PE X (.Name x pos) (tC v):=
 fun _ _ _ H _ I h=>ld_glob I hg hm ⟨v,H,I,r,h⟩ hd
variable {a b:Expr} {ta tb:TE} {pos:Pos}
def PC (X:Cx) (op:CmpOp) (a b:Expr) (t:TE):Prop:=
 ∀ (pins:List (Addr × Obj)) (s:Shared) (σ:St) (H:Hp) (Q:VK),Inv X pins σ H s→t σ H Q→
  wpAny (model X.prog X.w) X.A (eval a X.env) (fun v s₁=>wpAny (model X.prog X.w) X.A (eval b X.env) (fun u s₂=>wpAny (model X.prog X.w) X.A (compareOp op v u) (EP X pins σ Q) X.xe s₂) X.xe s₁) X.xe s
theorem nobehind (b:Expr) {op:CmpOp} (h:op ≠ .In) (h2:op ≠ .NotIn):behindInMarks op b=false:=by
 have e1:(op == CmpOp.In)=false:=by cases op <;> first | rfl | exact absurd rfl h
 have e2:(op == CmpOp.NotIn)=false:=by cases op <;> first | rfl | exact absurd rfl h2
 cases b <;> simp [behindInMarks,e1,e2]
def tIsN (ta:TE):TE:=fun σ H Q=>ta σ H fun x H1=>Q (.bl (decide (x=.non))) H1
def tNotN (ta:TE):TE:=fun σ H Q=>ta σ H fun x H1=>Q (.bl (!decide (x=.non))) H1
theorem RelV.none_iff {x:V} {v:Value} (r:RelV x v):(v == Value.none)=decide (x=.non):=by
 cases x with
 |non=>cases r; rfl
 |bl _=>cases r; rfl
 |int _=>obtain ⟨t,rfl⟩:=r; rfl
 |str _=>obtain ⟨t,rfl⟩:=r; rfl
 |byt _=>obtain ⟨t,rfl⟩:=r; rfl
 |flt _=>obtain ⟨t,rfl⟩:=r; rfl
 |ref _=>cases r; rfl
 |ty _=>cases r; rfl
theorem pc_isN {j pos'} (ha:PE X a ta):PC X .Is a (.Constant .none j pos') (tIsN ta):=by
 intro pins s σ H Q I h
 refine thn (ha pins s σ H _ I h) fun v s1 ⟨x,H1,I1,r1,q1⟩=>?_
 exact Constant_none (is_none_gen ⟨.bl _,H1,I1,by rw [r1.none_iff]; rfl,q1⟩)
theorem pc_notN {j pos'} (ha:PE X a ta):PC X .IsNot a (.Constant .none j pos') (tNotN ta):=by
 intro pins s σ H Q I h
 refine thn (ha pins s σ H _ I h) fun v s1 ⟨x,H1,I1,r1,q1⟩=>?_
 exact Constant_none (isnot_none_gen ⟨.bl _,H1,I1,by rw [r1.none_iff]; rfl,q1⟩)
def tB (t:TE):TT:=fun σ H Q=>t σ H fun x H1=>∃ c,x=.bl c∧Q c H1
theorem pe_cmp {op:CmpOp} {t:TE} (h:PC X op a b t) (h1:behindInMarks op b=false:=by first | exact nobehind _ (by decide) (by decide) | rfl):PE X (.Compare a [op] [b] pos) t:=fun pins s σ H Q I hw=>wpAny_Compare1 (h pins s σ H Q I hw) h1
theorem pt_cmp {op:CmpOp} {t:TE} (h:PC X op a b t) (h1:behindInMarks op b=false:=by first | exact nobehind _ (by decide) (by decide) | rfl):PT X (.Compare a [op] [b] pos) (tB t):=by
 intro pins s σ H Q I hw
 refine wpAny_isTrue_Compare1 (thn (h pins s σ H _ I hw) fun v s1 h1=>thn h1 fun u s2 h2=>thn h2 fun c s3 ⟨x,H1,I1,r1,q1⟩=>?_) h1
 obtain ⟨d,rfl,q⟩:=q1
 cases r1
 exact wpAny_truthy_bool ⟨H1,I1,q⟩
theorem pt_val {e:Expr} {t:TE} (h:PE X e t) (he:∀ whole,isTrue e X.env whole=(do let v ← whole; standAt e.pos; holding [v] (truthy v)):=by intro _; rfl):PT X e (tB t):=by
 intro pins s σ H Q I hw
 refine isTrue_plain (thn (h pins s σ H _ I hw) fun v s1 ⟨x,H1,I1,r1,q1⟩=>?_) (he _)
 obtain ⟨d,rfl,q⟩:=q1
 cases r1
 exact wpAny_truthy_bool ⟨H1,I1,q⟩
variable {tA tB':TT} {rest:List Expr}
def tAnd (t u:TT):TT:=fun σ H Q=>t σ H fun c H1=>if c=true then u σ H1 Q else Q false H1
def tOr (t u:TT):TT:=fun σ H Q=>t σ H fun c H1=>if c=true then Q true H1 else u σ H1 Q
def tNot (t:TT):TT:=fun σ H Q=>t σ H fun c H1=>Q (!c) H1
theorem pw_and1 (ha:PT X a tA):PW X (.BoolOp .And [a] pos) tA:=by
 intro wh pins s σ H Q I h
 refine isTrue_and (thn (ha pins s σ H Q I h) fun c s1 e=>?_)
 cases c with
 |true=>exact isTrue_and_nil e
 |false=>exact e
theorem pw_or1 (ha:PT X a tA):PW X (.BoolOp .Or [a] pos) tA:=by
 intro wh pins s σ H Q I h
 refine isTrue_or (thn (ha pins s σ H Q I h) fun c s1 e=>?_)
 cases c with
 |false=>exact isTrue_or_nil e
 |true=>exact e
theorem pw_and (ha:PT X a tA) (hb:PW X (.BoolOp .And (b::rest) pos) tB'):PW X (.BoolOp .And (a::b::rest) pos) (tAnd tA tB'):=by
 intro wh pins s σ H Q I h
 refine isTrue_and (thn (ha pins s σ H _ I h) fun c s1 ⟨H1,I1,q1⟩=>?_)
 cases c with
 |true=>exact hb wh pins s1 σ H1 Q I1 q1
 |false=>exact ⟨H1,I1,q1⟩
theorem pw_or (ha:PT X a tA) (hb:PW X (.BoolOp .Or (b::rest) pos) tB'):PW X (.BoolOp .Or (a::b::rest) pos) (tOr tA tB'):=by
 intro wh pins s σ H Q I h
 refine isTrue_or (thn (ha pins s σ H _ I h) fun c s1 ⟨H1,I1,q1⟩=>?_)
 cases c with
 |true=>exact ⟨H1,I1,q1⟩
 |false=>exact hb wh pins s1 σ H1 Q I1 q1
theorem pt_not (ha:PT X a tA):PT X (.UnaryOp .Not a pos) (tNot tA):=by
 intro pins s σ H Q I h
 exact isTrue_not (ha pins s σ H (fun c H1=>Q (!c) H1) I h)
def tAndV (ta tb:TE):TE:=fun σ H Q=>ta σ H fun x H1=>∃ c,x=.bl c∧if c=true then tb σ H1 Q else Q (.bl false) H1
def tOrV (ta tb:TE):TE:=fun σ H Q=>ta σ H fun x H1=>∃ c,x=.bl c∧if c=true then Q (.bl true) H1 else tb σ H1 Q
theorem pe_one {op} {t:TE} (h:PE X a t):PE X (.BoolOp op [a] pos) t:=fun pins s σ H Q I hw=>BoolOp_one (h pins s σ H Q I hw)
theorem pe_and (ha:PE X a ta) (hb:PE X (.BoolOp .And (b::rest) pos) tb):PE X (.BoolOp .And (a::b::rest) pos) (tAndV ta tb):=by
 intro pins s σ H Q I h
 refine BoolOp_and (thn (ha pins s σ H _ I h) fun v s1 ⟨x,H1,I1,r1,q1⟩=>?_)
 obtain ⟨c,rfl,q1⟩:=q1
 cases r1
 refine wpAny_truthy_bool ?_
 cases c with
 |true=>exact hb pins s1 σ H1 Q I1 q1
 |false=>exact ⟨.bl false,H1,I1,rfl,q1⟩
theorem pe_or (ha:PE X a ta) (hb:PE X (.BoolOp .Or (b::rest) pos) tb):PE X (.BoolOp .Or (a::b::rest) pos) (tOrV ta tb):=by
 intro pins s σ H Q I h
 refine BoolOp_or (thn (ha pins s σ H _ I h) fun v s1 ⟨x,H1,I1,r1,q1⟩=>?_)
 obtain ⟨c,rfl,q1⟩:=q1
 cases r1
 refine wpAny_truthy_bool ?_
 cases c with
 |false=>exact hb pins s1 σ H1 Q I1 q1
 |true=>exact ⟨.bl true,H1,I1,rfl,q1⟩
def tIf (t:TT) (ta tb:TE):TE:=fun σ H Q=>t σ H fun c H1=>if c=true then ta σ H1 Q else tb σ H1 Q
theorem pe_ifExp {c:Expr} (hc:PT X c tA) (ha:PE X a ta) (hb:PE X b tb):PE X (.IfExp c a b pos) (tIf tA ta tb):=by
 intro pins s σ H Q I h
 refine wpAny_IfExp (thn (hc pins s σ H _ I h) fun d s1 ⟨H1,I1,q1⟩=>?_)
 cases d with
 |true=>exact ha pins s1 σ H1 Q I1 q1
 |false=>exact hb pins s1 σ H1 Q I1 q1
end
end L2
namespace L2
open PySem PySem.Spec PyProof.Rows
def SqL (K:PySem.W.Frag) (H:Hp) (a:Addr) (xs:List V):Prop:=
 Rd H a (.lst xs)∨
  ∃ (o:Obj) (its:Array Value) (n:Nat),K.lookup a=some o∧o.cls=.type "list"∧o.dict=none∧o.data=.seq its n∧its.size≤sizeLine∧Vals xs its.toList
def SqT (K:PySem.W.Frag) (H:Hp) (a:Addr) (xs:List V):Prop:=
 Rd H a (.tup xs)∨
  ∃ (o:Obj) (its:Array Value) (n:Nat),K.lookup a=some o∧o.cls=.type "tuple"∧o.data=.seq its n∧its.size≤sizeLine∧Vals xs its.toList
def absV:Value→Option V
 | .none=>some .non
 | .bool b=>some (.bl b)
 | .int i _=>some (.int i)
 | .str x _=>some (.str x)
 | .bytes b _=>some (.byt b)
 | .float b _=>some (.flt b)
 | .ref a=>some (.ref a)
 | .type n=>some (.ty n)
 |_=>none
theorem RelV.abs {x:V} {u:Value} (r:RelV x u):absV u=some x:=by
 cases x with
 |non=>cases r; rfl
 |bl _=>cases r; rfl
 |int _=>obtain ⟨t,rfl⟩:=r; rfl
 |str _=>obtain ⟨t,rfl⟩:=r; rfl
 |byt _=>obtain ⟨t,rfl⟩:=r; rfl
 |flt _=>obtain ⟨t,rfl⟩:=r; rfl
 |ref _=>cases r; rfl
 |ty _=>cases r; rfl
theorem RelV.inj {x y:V} {u:Value} (r:RelV x u) (q:RelV y u):x=y:=Option.some.inj (r.abs.symm.trans q.abs)
theorem Vals.inj:∀ {xs ys:List V} {us:List Value},Vals xs us→Vals ys us→xs=ys
 |_,_,_,.nil,.nil=>rfl
 |_,_,_,.cons r t,.cons r' t'=>by rw [r.inj r',Vals.inj t t']
section
variable {X:Cx} {pins:List (Addr × Obj)} {σ:St} {H:Hp} {s:Shared} {a:Addr} {xs ys:List V}
theorem SqL.of {K:PySem.W.Frag} (h:H a=some (.lst xs)):SqL K H a xs:=.inl (.inl h)
theorem SqT.of {K:PySem.W.Frag} (h:H a=some (.tup xs)):SqT K H a xs:=.inl (.inl h)
theorem Inv.list (I:Inv X pins σ H s) (h:SqL X.K H a xs):∃ its:List Value,Vals xs its∧PlainL s.heap a its.toArray∧xs.length≤sizeLine:=by
 rcases h with h | ⟨o,its,n,hk,hc,hd,hs,hz,r⟩
 ·obtain ⟨z,its,n,r,e⟩:=h.ok I.hok
  exact ⟨its,r,⟨_,n,e,rfl,rfl,rfl⟩,z⟩
 ·refine ⟨its.toList,r,⟨o,n,I.kIn a o hk,hc,hd,by simpa using hs⟩,?_⟩
  have e:=r.length
  simp only [Array.length_toList] at e
  omega
theorem Inv.tuple (I:Inv X pins σ H s) (h:SqT X.K H a xs):∃ its:List Value,Vals xs its∧IsTup s.heap a its.toArray∧xs.length≤sizeLine:=by
 rcases h with h | ⟨o,its,n,hk,hc,hs,hz,r⟩
 ·obtain ⟨z,its,r,p⟩:=h.ok I.hok
  exact ⟨its,r,p,z⟩
 ·refine ⟨its.toList,r,⟨o,I.kIn a o hk,hc,n,by simpa using hs⟩,?_⟩
  have e:=r.length
  simp only [Array.length_toList] at e
  omega
theorem Inv.list_inj (I:Inv X pins σ H s) (h:SqL X.K H a xs) (h':SqL X.K H a ys):xs=ys:=by
 obtain ⟨its,r,⟨o,n,e,_,_,d⟩,_⟩:=I.list h
 obtain ⟨its',r',⟨o',n',e',_,_,d'⟩,_⟩:=I.list h'
 rw [e] at e'; cases e'
 rw [d] at d'
 injection d' with d1 _
 have:its=its':=by simpa using congrArg Array.toList d1
 subst this
 exact r.inj r'
theorem Inv.tuple_inj (I:Inv X pins σ H s) (h:SqT X.K H a xs) (h':SqT X.K H a ys):xs=ys:=by
 obtain ⟨its,r,⟨o,e,_,n,d⟩,_⟩:=I.tuple h
 obtain ⟨its',r',⟨o',e',_,n',d'⟩,_⟩:=I.tuple h'
 rw [e] at e'; cases e'
 rw [d] at d'
 injection d' with d1 _
 have:its=its':=by simpa using congrArg Array.toList d1
 subst this
 exact r.inj r'
end
abbrev Cx.wish (X:Cx) (E:Value→Shared→Prop):Cx:={ X with xe:=E }
abbrev Cx.nox (X:Cx):Cx:=X.wish fun _ _=>False
theorem Cx.Ok.wish {X:Cx} (ok:X.Ok) (E:Value→Shared→Prop):(X.wish E).Ok:=
 ⟨ok.mod,ok.kind,ok.glob,ok.blt,ok.above,ok.inj,ok.has,ok.cab,ok.hd,ok.frames,ok.stk,ok.exf,ok.bs,ok.bsz,ok.noex,ok.exfs,ok.funs,ok.frf⟩
theorem Cx.Ok.unwish {X:Cx} {E:Value→Shared→Prop} (ok:(X.wish E).Ok):X.Ok:=
 ⟨ok.mod,ok.kind,ok.glob,ok.blt,ok.above,ok.inj,ok.has,ok.cab,ok.hd,ok.frames,ok.stk,ok.exf,ok.bs,ok.bsz,ok.noex,ok.exfs,ok.funs,ok.frf⟩
section
variable {X:Cx} {pins:List (Addr × Obj)} {σ:St} {H:Hp} {s:Shared} {E:Value→Shared→Prop}
theorem Inv.wish (I:Inv X pins σ H s) (E:Value→Shared→Prop):Inv (X.wish E) pins σ H s:=⟨I.ok.wish E,I.os,I.bare,I.base,I.loc,I.cell,I.free,I.freeC,I.pin,I.hok,I.len⟩
theorem Inv.unwish (I:Inv (X.wish E) pins σ H s):Inv X pins σ H s:=⟨I.ok.unwish,I.os,I.bare,I.base,I.loc,I.cell,I.free,I.freeC,I.pin,I.hok,I.len⟩
theorem SP.unwish {D:Ends} {f:Flow} {s':Shared} (h:SP (X.wish E) pins D f s'):SP X pins D f s':=by
 cases f with
 |next=>obtain ⟨σ',H',I,q⟩:=h; exact ⟨σ',H',I.unwish,q⟩
 |brk=>obtain ⟨σ',H',I,q⟩:=h; exact ⟨σ',H',I.unwish,q⟩
 |cont=>obtain ⟨σ',H',I,q⟩:=h; exact ⟨σ',H',I.unwish,q⟩
 |ret u=>obtain ⟨v,σ',H',I,r,q⟩:=h; exact ⟨v,σ',H',I.unwish,r,q⟩
theorem PSs.nox {st:List Stmt} {t:TS} (h:PSs X.nox st t):PSs X st t:=fun pins s σ H D I hw=>
 wpAny_mono (h pins s σ H D (I.wish _) hw) (fun _ _ q=>q.unwish) fun _ _ z=>False.elim z
end
section
variable {X:Cx} {st:Stmt} {rest:List Stmt} {t u:TS} {e:Expr} {te:TE} {pos:Pos}
def tNext:TS:=fun D σ H=>D.nx σ H
def tSeq (t u:TS):TS:=fun D σ H=>t { D with nx:=u D } σ H
theorem pss_nil:PSs X [] tNext:=fun _ _ σ H _ I h=>wpAny_execs_nil ⟨σ,H,I,h⟩
theorem pss_cons (h1:PS X st t) (h2:PSs X rest u):PSs X (st::rest) (tSeq t u):=by
 intro pins s σ H D I h
 refine wpAny_execs_cons (thn (h1 pins s σ H { D with nx:=u D } I h) fun f s1 q=>?_)
 cases f with
 |next=>
  obtain ⟨σ',H',I',q⟩:=q
  exact h2 pins s1 σ' H' D I' q
 |ret v=>exact q
 |brk=>exact q
 |cont=>exact q
theorem pss_one (h1:PS X st t):PSs X [st] t:=by
 intro pins s σ H D I h
 refine wpAny_execs_cons (thn (h1 pins s σ H D I h) fun f s1 q=>?_)
 cases f with
 |next=>exact wpAny_execs_nil q
 |ret v=>exact q
 |brk=>exact q
 |cont=>exact q
def tCont:TS:=fun D σ H=>D.ct σ H
theorem ps_continue:PS X (.Continue pos) tCont:=fun _ _ σ H _ I h=>wpAny_Continue ⟨σ,H,I,h⟩
theorem Inv.quiet {pins:List (Addr × Obj)} {σ:St} {H:Hp} {s:Shared} (I:Inv X pins σ H s):interactive X.env=false:=by simp [interactive,I.ok.kind]
def tDrop (te:TE):TS:=fun D σ H=>te σ H fun _ H1=>D.nx σ H1
theorem ps_expr (he:PE X e te) (hs:swapsWith e none pos.line X.env=pure false:=by rfl):PS X (.Expr e pos) (tDrop te):=by
 intro pins s σ H D I h
 exact wpAny_Expr_any (thn (he pins s σ H _ I h) fun v s1 ⟨x,H1,I1,r1,q1⟩=>⟨σ,H1,I1,q1⟩) I.quiet hs
def tRet (te:TE):TS:=fun D σ H=>te σ H D.rt
theorem ps_ret (he:PE X e te):PS X (.Return (some e) pos) (tRet te):=by
 intro pins s σ H D I h
 exact wpAny_Return_some (thn (he pins s σ H _ I h) fun v s1 ⟨x,H1,I1,r1,q1⟩=>⟨x,σ,H1,I1,r1,q1⟩)
def tIfS (c:TT) (t u:TS):TS:=fun D σ H=>c σ H fun b H1=>if b=true then t D σ H1 else u D σ H1
theorem ps_if {c:Expr} {a b:List Stmt} {tc:TT} (hc:PT X c tc) (ha:PSs X a t) (hb:PSs X b u):PS X (.If c a b pos) (tIfS tc t u):=by
 intro pins s σ H D I h
 refine wpAny_If (thn (hc pins s σ H _ I h) fun d s1 ⟨H1,I1,q1⟩=>?_)
 cases d with
 |true=>exact ha pins s1 σ H1 D I1 q1
 |false=>exact hb pins s1 σ H1 D I1 q1
def tNever:TS:=fun _ _ _=>False
theorem ps_never:PS X st tNever:=fun _ _ _ _ _ _ h=>h.elim
end
abbrev TG:=V→St→Hp→(St→Hp→Prop)→Prop
abbrev TGs:=List V→St→Hp→(St→Hp→Prop)→Prop
def PG (X:Cx) (target:Expr) (t:TG):Prop:=
 ∀ (pins:List (Addr × Obj)) (s:Shared) (σ:St) (H:Hp) (v:V) (u:Value) (Q:St→Hp→Prop),Inv X pins σ H s→RelV v u→t v σ H Q→
  wpAny (model X.prog X.w) X.A (assign target X.env u) (fun _ s'=>∃ σ' H',Inv X pins σ' H' s'∧Q σ' H') X.xe s
def PGs (X:Cx) (ts:List Expr) (t:TGs):Prop:=
 ∀ (pins:List (Addr × Obj)) (s:Shared) (σ:St) (H:Hp) (vs:List V) (us:List Value) (Q:St→Hp→Prop),Inv X pins σ H s→Vals vs us→t vs σ H Q→
  wpAny (model X.prog X.w) X.A (assignInOrder ((assignEach ts X.env).map (·.2)) us) (fun _ s'=>∃ σ' H',Inv X pins σ' H' s'∧Q σ' H') X.xe s
abbrev TSet:=V→V→V→Hp→(Hp→Prop)→Prop
def PSet (X:Cx) (t:TSet):Prop:=
 ∀ (pins:List (Addr × Obj)) (s:Shared) (σ:St) (H:Hp) (o i v:V) (ov iv u:Value) (Q:Hp→Prop),Inv X pins σ H s→RelV o ov→RelV i iv→RelV v u→t o i v H Q→
  wpAny (model X.prog X.w) X.A (setItem ov iv u) (fun _ s'=>∃ H',Inv X pins σ H' s'∧Q H') X.xe s
abbrev TIp:=V→V→Hp→VK→Prop
def PIp (X:Cx) (op:Operator) (t:TIp):Prop:=
 ∀ (pins:List (Addr × Obj)) (s:Shared) (σ:St) (H:Hp) (x y:V) (v u:Value) (Q:VK),Inv X pins σ H s→RelV x v→RelV y u→t x y H Q→
  wpAny (model X.prog X.w) X.A (inplaceOp op v u) (EP X pins σ Q) X.xe s
section
variable {X:Cx} {pos:Pos}
def gName (i:Nat):TG:=fun v σ H Q=>Q (σ.set i (some v)) H
theorem pg_name {i:Nat} {x:Str} (hN:X.N.Nodup) (hi:X.N[i]?=some x) (hx:Loc X.env.scope x) (hf:X.fn x=true∨X.env.scope.names.lookup x=some .local:=by first | exact .inl rfl | exact .inr rfl | assumption):PG X (.Name x pos) (gName i):=by
 intro pins s σ H v u Q I r h
 exact wpAny_assign_Name (store_ok I hN hi hx r (fun s' I'=>⟨_,H,I',h⟩) hf)
def gNil:TGs:=fun vs σ H Q=>vs=[]∧Q σ H
def gCons (t:TG) (u:TGs):TGs:=fun vs σ H Q=>∃ v r,vs=v::r∧t v σ H fun σ' H'=>u r σ' H' Q
theorem pgs_nil:PGs X [] gNil:=by
 intro pins s σ H vs us Q I r h
 obtain ⟨e,h⟩:=h
 subst e
 cases r
 exact assignInOrder_nil ⟨σ,H,I,h⟩
theorem pgs_cons {e:Expr} {es:List Expr} {t:TG} {u:TGs} (h1:PG X e t) (h2:PGs X es u)
  (hs:(assignEach (e::es) X.env).map (·.2)=assign e X.env::(assignEach es X.env).map (·.2):=by rfl):PGs X (e::es) (gCons t u):=by
 intro pins s σ H vs us Q I r h
 obtain ⟨v,vr,e1,h⟩:=h
 subst e1
 cases r with
 |cons r rr=>
  rw [hs]
  refine assignInOrder_cons (thn (h1 pins s σ H _ _ _ I r h) fun _ s1 ⟨σ1,H1,I1,q1⟩=>?_)
  exact h2 pins s1 σ1 H1 _ _ Q I1 rr q1
def gTup (K:PySem.W.Frag) (n:Nat) (t:TGs):TG:=fun v σ H Q=>∃ a xs,v=.ref a∧SqT K H a xs∧xs.length=n∧t xs σ H Q
theorem pg_tup {es:List Expr} {k:Nat} {t:TGs} {n:Nat} (hc:X.calm=true) (h:PGs X es t)
  (hn:(assignEach es X.env).length=n:=by rfl) (hst:(assignEach es X.env).findIdx? (·.1)=none:=by rfl):PG X (.Tuple es k pos) (gTup X.K n t):=by
 intro pins s σ H v u Q I r hw
 obtain ⟨a,xs,e1,hq,hl,hw⟩:=hw
 subst e1
 cases r
 obtain ⟨its,rv,ht,hz⟩:=I.tuple hq
 refine assign_Tuple_tuple (I.ok.hd hc) ht (by simp [hn,← hl,rv.length]) hst fun h' hx=>?_
 have I1:Inv X pins σ H { s with heap:=h' }:=I.kept (t':=s.toks) fun b o e=>hx b o (Nat.ne_of_lt (Heap.lt_size e)) e
 exact h pins _ σ H xs _ Q I1 (by simpa using rv) hw
def tAsg (te:TE) (g:TG):TS:=fun D σ H=>te σ H fun x H1=>g x σ H1 D.nx
theorem ps_set {i:Nat} {x:Str} {e:Expr} {te:TE} {pos':Pos} (hN:X.N.Nodup) (hi:X.N[i]?=some x) (hx:Loc X.env.scope x) (he:PE X e te) (hs:swapsWith e (some (.Name x pos')) pos.line X.env=pure false:=by rfl) (hf:X.fn x=true∨X.env.scope.names.lookup x=some .local:=by first | exact .inl rfl | exact .inr rfl | assumption) :
  PS X (.Assign [.Name x pos'] e pos) (tAsg te (gName i)):=by
 intro pins s σ H D I h
 refine wpAny_Assign_Name (thn (he pins s σ H _ I h) fun v s1 ⟨y,H1,I1,r1,q1⟩=>?_) hs
 exact store_ok I1 hN hi hx r1 (fun s2 I2=>⟨_,H1,I2,q1⟩) hf
def tAug (i:Nat) (te:TE) (ti:TIp):TS:=fun D σ H=>∃ x,σ[i]?=some (some x)∧te σ H fun y H1=>ti x y H1 fun z H2=>D.nx (σ.set i (some z)) H2
theorem ps_aug {i:Nat} {x:Str} {e:Expr} {te:TE} {op:Operator} {ti:TIp} {pos':Pos} (hN:X.N.Nodup) (hi:X.N[i]?=some x) (hx:Loc X.env.scope x) (he:PE X e te) (ho:PIp X op ti) (hf:X.fn x=true∨X.env.scope.names.lookup x=some .local:=by first | exact .inl rfl | exact .inr rfl | assumption) :
  PS X (.AugAssign (.Name x pos') op e pos) (tAug i te ti):=by
 intro pins s σ H D I h
 obtain ⟨v,e1,h⟩:=h
 obtain ⟨m,hn,hl⟩:=I.loc
 have vis:Vis X.env.scope x:=by rcases hx with k | k; exact .inl k; exact .inr (.inl k)
 obtain ⟨u,r,l⟩:=hl i x v hi e1 vis
 refine wpAny_AugAssign_Name ?_
 have go:wpAny (model X.prog X.w) X.A (eval e X.env) (fun w s₂=>wpAny (model X.prog X.w) X.A (inplaceOp op u w) (fun r s₃=>wpAny (model X.prog X.w) X.A (storeName X.env x r) (fun _=>SP X pins D .next) X.xe s₃) X.xe s₂) X.xe s:=by
  refine thn (he pins s σ H _ I h) fun w s1 ⟨y,H1,I1,r1,q1⟩=>?_
  refine thn (ho pins s1 σ H1 v y u w _ I1 r r1 q1) fun z s2 ⟨zv,H2,I2,r2,q2⟩=>?_
  exact store_ok I2 hN hi hx r2 (fun s3 I3=>⟨_,H2,I3,q2⟩) hf
 rcases l with ⟨hk,hm⟩ | ⟨hk,c,hc,hcell⟩
 ·exact wpAny_loadName_local I.ok.kind hk hn hm go
 ·rcases hk with hk | hk
  ·exact wpAny_loadName_cell I.ok.kind hk hc hcell go
  ·rcases hx with k | k
   ·have:X.env.scope.names.lookup x=some .free:=hk
    rw [k] at this; cases this
   ·have:X.env.scope.names.lookup x=some .free:=hk
    rw [k] at this; cases this
def tAugS (to ti te:TE) (tget:V→V→Hp→VK→Prop) (tip:TIp) (tset:TSet):TS:=fun D σ H=>to σ H fun o H1=>ti σ H1 fun i H2=>tget o i H2 fun x H3=>te σ H3 fun y H4=>tip x y H4 fun z H5=>tset o i z H5 fun H6=>D.nx σ H6
def PGet (X:Cx) (t:V→V→Hp→VK→Prop):Prop:=
 ∀ (pins:List (Addr × Obj)) (s:Shared) (σ:St) (H:Hp) (o i:V) (ov iv:Value) (Q:VK),Inv X pins σ H s→RelV o ov→RelV i iv→t o i H Q→
  wpAny (model X.prog X.w) X.A (getItem ov iv) (EP X pins σ Q) X.xe s
theorem ps_augS {o i e:Expr} {to ti te:TE} {tget:V→V→Hp→VK→Prop} {tip:TIp} {tset:TSet} {op:Operator} {tpos:Pos} (ho:PE X o to) (hi:PE X i ti) (hg:PGet X tget) (he:PE X e te) (hp:PIp X op tip) (hs:PSet X tset)
  (ha:∀ ov iv new,augStore i ov iv new=(do holding [new,ov,iv] (setItem ov iv new); release [new,ov,iv] []; pure .next):=by intros; rfl):PS X (.AugAssign (.Subscript o i tpos) op e pos) (tAugS to ti te tget tip tset):=by
 intro pins s σ H D I h
 refine wpAny_AugAssign_SubscriptAny (thn (ho pins s σ H _ I h) fun ov s1 ⟨x1,H1,I1,r1,q1⟩=>?_) ha
 refine thn (hi pins s1 σ H1 _ I1 q1) fun iv s2 ⟨x2,H2,I2,r2,q2⟩=>?_
 refine thn (hg pins s2 σ H2 x1 x2 ov iv _ I2 r1 r2 q2) fun old s3 ⟨x3,H3,I3,r3,q3⟩=>?_
 refine thn (he pins s3 σ H3 _ I3 q3) fun v s4 ⟨x4,H4,I4,r4,q4⟩=>?_
 refine thn (hp pins s4 σ H4 x3 x4 old v _ I4 r3 r4 q4) fun new s5 ⟨x5,H5,I5,r5,q5⟩=>?_
 exact thn (hs pins s5 σ H5 x1 x2 x5 ov iv new _ I5 r1 r2 r5 q5) fun _ s6 ⟨H6,I6,q6⟩=>⟨σ,H6,I6,q6⟩
def ipI (f:Int→Int→Int):TIp:=fun x y H Q=>∃ i j,x=.int i∧y=.int j∧Q (.int (f i j)) H
theorem ip_add:PIp X .Add (ipI fun i j=>i + j):=by
 intro pins s σ H x y v u Q I r1 r2 h
 obtain ⟨i,j,e1,e2,q⟩:=h
 subst e1; subst e2
 obtain ⟨t,rfl⟩:=r1
 obtain ⟨t',rfl⟩:=r2
 exact iadd_int ⟨.int _,H,I.tok _,⟨_,rfl⟩,q⟩
end
section
variable {X:Cx} {pos:Pos}
def tWhile (c:TT) (tb:TS):TS:=fun D σ H=>∃ W:Nat→St→Hp→Prop,(∃ m,W m σ H)∧∀ m σ H,W m σ H→
 c σ H fun b H1=>if b=true then ∃ N:St→Hp→Prop,(∀ σ' H',N σ' H'→∃ m',m' < m∧W m' σ' H')∧tb { D with nx:=N,ct:=N,bk:=D.nx } σ H1 else D.nx σ H1
theorem ps_while {c:Expr} {body:List Stmt} {tc:TT} {tb:TS} (hp:PassesOwn (model X.prog X.w) X.A X.env X.xe) (hc:PT X c tc) (hb:PSs X body tb):PS X (.While c body [] pos) (tWhile tc tb):=by
 intro pins s σ H D I h
 obtain ⟨W,⟨m0,w0⟩,turn⟩:=h
 refine wpAny_While (codeAny_whileLoop (fun n s'=>∃ σ' H',Inv X pins σ' H' s'∧W n σ' H') ?_ m0 ⟨σ,H,I,w0⟩)
 rintro n s1 ⟨σ1,H1,I1,w1⟩
 refine wpAny_passesOwn hp (thn (hc pins s1 σ1 H1 _ I1 (turn n σ1 H1 w1)) fun b s2 ⟨H2,I2,q2⟩=>?_)
 cases b with
 |true=>
  obtain ⟨N,hN,q2⟩:=q2
  rw [if_pos rfl]
  refine wpAny_passesOwn hp (thn (hb pins s2 σ1 H2 _ I2 q2) fun f s3 q3=>?_)
  cases f with
  |next=>
   obtain ⟨σ3,H3,I3,n3⟩:=q3
   obtain ⟨m',hm,w3⟩:=hN σ3 H3 n3
   exact ⟨m',hm,σ3,H3,I3,w3⟩
  |cont=>
   obtain ⟨σ3,H3,I3,n3⟩:=q3
   obtain ⟨m',hm,w3⟩:=hN σ3 H3 n3
   exact ⟨m',hm,σ3,H3,I3,w3⟩
  |brk=>exact q3
  |ret v=>exact q3
 |false=>
  rw [if_neg Bool.false_ne_true]
  exact wpAny_execs_nil ⟨σ1,H2,I2,q2⟩
end
structure It where
 go:Nat→Hp→Prop
 yld:Nat→Hp→V→Hp→Prop
 stop:Nat→Hp→Prop
def FpOk (X:Cx) (pins:List (Addr × Obj)) (H:Hp) (b:Addr):Prop:=
 H b=none∧b ≠ X.env.locals∧b ∉ X.fs∧(b ∈ X.ex∨X.s_0.heap.objs.size≤b)∧(∀ x c,X.env.cells.lookup x=some c→c ≠ b)∧∀ p ∈ X.pn ++ pins,p.1 ≠ b
theorem Inv.fpOk {X:Cx} {pins:List (Addr × Obj)} {σ:St} {H H':Hp} {s:Shared} {b:Addr} (I:Inv X pins σ H s) (hb:s.heap.objs.size≤b) (hn:H' b=none):FpOk X pins H' b:=by
 refine ⟨hn,Nat.ne_of_gt (Nat.lt_of_lt_of_le I.lt hb),I.nofs hb,.inr (Nat.le_trans I.sz hb),fun x c e z=>?_,fun p hp z=>?_⟩
 ·obtain ⟨v,q⟩:=I.cell x c e
  exact absurd (Nat.lt_of_lt_of_le q.lt (by rw [z]; exact hb)) (Nat.lt_irrefl _)
 ·exact absurd (Nat.lt_of_lt_of_le (Heap.lt_size (I.pin p hp).1) (by rw [z]; exact hb)) (Nat.lt_irrefl _)
structure Turn (P:Program) (w:World) (K:PySem.W.Frag) (tg:Expr) (J:It) (fp:List Addr) (it:Addr) (tn:Nat→Heap→Prop):Prop where
 mem:it ∈ fp
 obj:∀ i h,tn i h→∀ b ∈ fp,∃ o,h.get? b=some o∧∀ v,o.data ≠ .cell v
 keep:∀ i h h',tn i h→(∀ b ∈ fp,∀ o,h.get? b=some o→h'.get? b=some o)→tn i h'
 item:∀ (X:Cx),X.prog=P→X.w=w→X.K=K→X.calm=true→∀ (i:Nat) (pins:List (Addr × Obj)) (s:Shared) (σ:St) (H:Hp) (E:Value→Shared→Prop),Inv X pins σ H s→(∀ b ∈ fp,FpOk X pins H b)→tn i s.heap→J.go i H→
  wpAny (model P w) X.A (pyNext (.ref it)) (fun r s1=>∃ u,r=some u∧
   wpAny (model P w) X.A (letOwnedTupleGo tg (.ref it) u) (fun _ s2=>∃ x H',Inv X pins σ H' s2∧RelV x u∧J.yld i H x H'∧tn (i + 1) s2.heap∧∀ b ∈ fp,H' b=none) E s1) E s
 done:∀ (X:Cx),X.prog=P→X.w=w→X.K=K→X.calm=true→∀ (i:Nat) (pins:List (Addr × Obj)) (s:Shared) (σ:St) (H:Hp) (E:Value→Shared→Prop),Inv X pins σ H s→(∀ b ∈ fp,FpOk X pins H b)→tn i s.heap→J.stop i H→
  wpAny (model P w) X.A (pyNext (.ref it)) (fun r s1=>r=none∧Inv X pins σ H s1) E s
 self:∀ (A:Around) (i:Nat) (s:Shared) (Q:Value→Shared→Prop) (E:Value→Shared→Prop),tn i s.heap→Q (.ref it) s→wpAny (model P w) A (pyIter (.ref it)) Q E s
abbrev TI:=St→Hp→(It→Hp→Prop)→Prop
def PIE (X:Cx) (pins:List (Addr × Obj)) (σ:St) (tg:Expr) (R:It→Hp→Prop) (itv:Value) (s2:Shared):Prop:=
 ∃ (it:Addr) (fp:List Addr) (tn:Nat→Heap→Prop) (J:It) (H':Hp),itv=.ref it∧Inv X pins σ H' s2∧Turn X.prog X.w X.K tg J fp it tn∧tn 0 s2.heap∧(∀ b ∈ fp,FpOk X pins H' b)∧R J H'
def PI (X:Cx) (tg iter:Expr) (wi:TI):Prop:=
 ∀ (pins:List (Addr × Obj)) (s:Shared) (σ:St) (H:Hp) (R:It→Hp→Prop),Inv X pins σ H s→wi σ H R→
  wpAny (model X.prog X.w) X.A (eval iter X.env) (fun v s1=>wpAny (model X.prog X.w) X.A (pyIter v) (PIE X pins σ tg R) X.xe s1) X.xe s
theorem go_of {M:Model} {A:Around} {E:Value→Shared→Prop} {s:Shared} {tg:Expr} {it:Addr} {u:Value} {o:Obj} {n:String} {vs:Array Value} {Q:Unit→Shared→Prop} (ho:s.heap.get? it=some o) (hc:o.cls=.type n) (hd:o.data=.fields vs)
  (hn:["enumerate","zip","dict_itemiterator","dict_reverseitemiterator","odict_iterator","itertools.zip_longest","itertools.pairwise"].contains n=false) (hQ:Q () s):wpAny M A (letOwnedTupleGo tg (.ref it) u) Q E s:=by
 unfold letOwnedTupleGo
 cases tg <;> first
  |exact wpAny_pure hQ
  |(cases u <;> first
    |exact wpAny_pure hQ
    |(refine wpAny_bind (wpAny_load ho ?_)
      rw [hc,hd]
      show wpAny M A (if (["enumerate","zip","dict_itemiterator","dict_reverseitemiterator","odict_iterator","itertools.zip_longest","itertools.pairwise"].contains n && vs[0]? == some (rawInt _))=true then _ else _) Q E s
      rw [if_neg (by intro h; rw [hn,Bool.false_and] at h; cases h)]
      exact wpAny_pure hQ))
def Itl (K:PySem.W.Frag) (a:Addr):It:=
 ⟨fun i H=>∃ xs x,SqL K H a xs∧xs[i]?=some x,fun i H x H'=>H'=H∧∀ xs,SqL K H a xs→xs[i]?=some x,fun i H=>∃ xs,SqL K H a xs∧xs.length≤i⟩
def Itr (lo:Int) (n:Nat):It:=⟨fun i _=>i < n,fun i H x H'=>H'=H∧x=.int (lo + i),fun i _=>n≤i⟩
theorem turn_list {P:Program} {w:World} {K:PySem.W.Frag} {tg:Expr} (a it:Addr):Turn P w K tg (Itl K a) [it] it (fun i h=>h.IsListIter it a i) where
 mem:=by simp
 obj:=fun i h st b hb=>by
  have e:b=it:=by simpa using hb
  subst e
  obtain ⟨o,e,c,d⟩:=st
  exact ⟨o,e,fun v z=>by rw [d] at z; cases z⟩
 keep:=fun i h h' st k=>st.at fun o e=>k it (by simp) o e
 item:=by
  intro X hP hw hK hc i pins s σ H E I hf st hg
  subst hP hw hK
  obtain ⟨xs,x,hq,hx⟩:=hg
  obtain ⟨its,rv,p,hz⟩:=I.list hq
  obtain ⟨u,hu,ru⟩:=rv.get hx
  obtain ⟨f0,f1,f2,f3,f4,f5⟩:=hf it (by simp)
  refine wpAny_pyNext_list_item st p.isList (x:=u) (by simpa using hu) fun h' st' sb=>?_
  have I1:Inv X pins σ H { s with heap:=h' }:=I.turned (t':=s.toks) (fun b o hb e=>(sb.2 b hb).trans e) f0 f1 f3 f4 f5
  obtain ⟨o,e,c,d⟩:=id st'
  exact ⟨u,rfl,go_of (s:={ s with heap:=h' }) e c d (by decide) ⟨x,H,I1,ru,⟨rfl,fun ys hy=>by rw [I.list_inj hy hq]; exact hx⟩,st',fun b hb=>(hf b hb).1⟩⟩
 done:=by
  intro X hP hw hK hc i pins s σ H E I hf st hg
  subst hP hw hK
  obtain ⟨xs,hq,hx⟩:=hg
  obtain ⟨its,rv,p,hz⟩:=I.list hq
  obtain ⟨f0,f1,f2,f3,f4,f5⟩:=hf it (by simp)
  have hl:=rv.length
  exact wpAny_pyNext_list_end (I.ok.hd hc) st p.isList (by simp; omega) fun h' eb=>⟨rfl,I.turned (t':=s.toks) (fun b o hb e=>eb b o hb e) f0 f1 f3 f4 f5⟩
 self:=fun _ _ _ _ _ st h=>wpAny_pyIter_listiter st h
theorem turn_range {P:Program} {w:World} {K:PySem.W.Frag} {tg:Expr} (it:Addr) (lo:Int) (n:Nat):Turn P w K tg (Itr lo n) [it] it (fun i h=>IsRangeIter h it (lo + (i:Nat) * 1) ((n:Int) - (i:Nat)) 1) where
 mem:=by simp
 obj:=fun i h st b hb=>by
  have e:b=it:=by simpa using hb
  subst e
  exact ⟨_,st,fun v z=>by
   have z':Data.fields _=Data.cell v:=z
   cases z'⟩
 keep:=fun i h h' st k=>k it (by simp) _ st
 item:=by
  intro X hP hw hK hc i pins s σ H E I hf st hg
  subst hP hw hK
  obtain ⟨f0,f1,f2,f3,f4,f5⟩:=hf it (by simp)
  have W:=Walks.range (prog:=X.prog) (w:=X.w) (I.ok.hd hc) it lo 1 n
  refine W.item i s _ _ hg st fun v h' tk hv st' kk=>?_
  obtain ⟨t,rfl⟩:=hv
  have I1:Inv X pins σ H { s with heap:=h',toks:=tk }:=I.turned (fun b o hb e=>kk b o (by simpa using hb) e) f0 f1 f3 f4 f5
  refine ⟨_,rfl,go_of (s:={ s with heap:=h',toks:=tk }) (n:="range_iterator") st' rfl rfl (by decide) ⟨.int (lo + i),H,I1,⟨t,?_⟩,⟨rfl,rfl⟩,st',fun b hb=>(hf b hb).1⟩⟩
  rw [Int.mul_one]
 done:=by
  intro X hP hw hK hc i pins s σ H E I hf st hg
  subst hP hw hK
  obtain ⟨f0,f1,f2,f3,f4,f5⟩:=hf it (by simp)
  exact wpAny_pyNext_range_end (I.ok.hd hc) st (by have:n≤i:=hg; omega) fun h' eb=>⟨rfl,I.turned (t':=s.toks) (fun b o hb e=>eb b o hb e) f0 f1 f3 f4 f5⟩
 self:=fun _ _ _ _ _ st h=>wpAny_pyIter_rangeiter st h
end L2
namespace L2
open PySem PySem.Spec PyProof.Rows
section
variable {X:Cx} {tg:Expr}
def iList (K:PySem.W.Frag) (tl:TE):TI:=fun σ H R=>tl σ H fun x H1=>∃ a,x=.ref a∧(∃ xs,SqL K H1 a xs)∧R (Itl K a) H1
theorem pi_list {l:Expr} {tl:TE} (hl:PE X l tl):PI X tg l (iList X.K tl):=by
 intro pins s σ H R I h
 refine thn (hl pins s σ H _ I h) fun v s1 ⟨x,H1,I1,r1,q1⟩=>?_
 obtain ⟨a,e,⟨xs,hq⟩,q⟩:=q1
 subst e
 cases r1
 obtain ⟨its,rv,p,hz⟩:=I1.list hq
 refine wpAny_pyIter_list p.isList ?_
 refine ⟨s1.heap.objs.size,[s1.heap.objs.size],_,_,H1,rfl,I1.kept (t':=s1.toks) fun b o e=>Heap.get?_push_of_some _ e,turn_list a _,⟨_,Heap.get?_push_size _ rfl,rfl,rfl⟩,fun b hb=>?_,q⟩
 have e:b=s1.heap.objs.size:=by simpa using hb
 subst e
 exact I1.fpOk (Nat.le_refl _) (I1.hok.fresh (Nat.le_refl _))
theorem range_it {pins:List (Addr × Obj)} {σ:St} {H:Hp} {s:Shared} {R:It→Hp→Prop} {E:Value→Shared→Prop} {lo hi:Int} {t u v:Tok} {tk:Nat} (I:Inv X pins σ H s) (h1:-(2 ^ 62)≤lo) (h2:lo < 2 ^ 62) (h3:-(2 ^ 62)≤hi) (h4:hi < 2 ^ 62)
  (q:R (Itr lo (hi - lo).toNat) H):wpAny (model X.prog X.w) X.A (pyIter (.ref s.heap.objs.size)) (PIE X pins σ tg R) E { s with heap:=s.heap.push { cls:=.type "range",data:=.fields #[.int lo t,.int hi u,.int 1 v] },toks:=tk }:=by
 refine wpAny_pyIter_range (IsRange.new ..) (small_one h1 h2 h3 h4) ?_
 have I1:Inv X pins σ H { s with heap:=s.heap.push { cls:=.type "range",data:=.fields #[.int lo t,.int hi u,.int 1 v] },toks:=tk }:=I.kept fun b o e=>Heap.get?_push_of_some _ e
 refine ⟨(s.heap.push { cls:=.type "range",data:=.fields #[.int lo t,.int hi u,.int 1 v] }).objs.size,[(s.heap.push { cls:=.type "range",data:=.fields #[.int lo t,.int hi u,.int 1 v] }).objs.size],_,_,H,rfl,
  I1.kept (t':=tk) fun b o e=>Heap.get?_push_of_some _ e,turn_range _ lo (hi - lo).toNat,?_,fun b hb=>?_,q⟩
 ·have e1:lo + ((0:Nat):Int) * 1=lo:=by simp
  have e2:(((hi - lo).toNat:Nat):Int) - ((0:Nat):Int)=Builtin.Range.rangeSize lo hi 1:=by rw [rangeSize_one]; split <;> omega
  show IsRangeIter _ _ (lo + ((0:Nat):Int) * 1) ((((hi - lo).toNat:Nat):Int) - ((0:Nat):Int)) 1
  rw [e1,e2]
  exact Heap.get?_push_size _ rfl
 ·have e:b=(s.heap.push { cls:=.type "range",data:=.fields #[.int lo t,.int hi u,.int 1 v] }).objs.size:=by simpa using hb
  subst e
  exact I1.fpOk (Nat.le_refl _) (I1.hok.fresh (Nat.le_refl _))
def iRng1 (ta:TA):TI:=fun σ H R=>ta σ H fun vs H1=>∃ j:Int,vs=[.int j]∧-(2 ^ 62)≤j∧j < 2 ^ 62∧R (Itr 0 j.toNat) H1
def iRng2 (ta:TA):TI:=fun σ H R=>ta σ H fun vs H1=>∃ i j:Int,vs=[.int i,.int j]∧(-(2 ^ 62)≤i∧i < 2 ^ 62∧-(2 ^ 62)≤j∧j < 2 ^ 62)∧R (Itr i (j - i).toNat) H1
theorem pi_range1 {a:Expr} {ta:TA} {p pos:Pos} (hg:Gl X "range") (hm:X.mg "range"=none) (ha:PA X [a] ta) (hs:starEach [a] X.env=[(false,eval a X.env)]:=by rfl):PI X tg (.Call (.Name "range" p) [a] [] pos) (iRng1 ta):=by
 intro pins s σ H R I h
 refine Call_ (ld_blt I hg hm boot_range (PyProof.Rows.callWith_type1 (thn (ha pos pins s σ H _ I h) fun us s1 ⟨vs,H1,I1,r1,q1⟩=>?_) hs rfl))
 obtain ⟨j,e,q1,q2,q⟩:=q1
 subst e
 cases r1 with
 |cons r rr=>
  cases rr
  obtain ⟨t,rfl⟩:=r
  exact call_range_1 (range_it I1 (by omega) (by omega) q1 q2 (by simpa using q))
theorem pi_range2 {a b:Expr} {ta:TA} {p pos:Pos} (hg:Gl X "range") (hm:X.mg "range"=none) (ha:PA X [a,b] ta) (hs:starEach [a,b] X.env=[(false,eval a X.env),(false,eval b X.env)]:=by rfl) (hs2:starEach [b] X.env=[(false,eval b X.env)]:=by rfl) :
  PI X tg (.Call (.Name "range" p) [a,b] [] pos) (iRng2 ta):=by
 intro pins s σ H R I h
 refine Call_ (ld_blt I hg hm boot_range (PyProof.Rows.callWith_type1 (thn (ha pos pins s σ H _ I h) fun us s1 ⟨vs,H1,I1,r1,q1⟩=>?_) (by rw [hs,hs2]) (by rw [hs2]; rfl)))
 obtain ⟨i,j,e,⟨q1,q2,q3,q4⟩,q⟩:=q1
 subst e
 cases r1 with
 |cons r rr=>
  cases rr with
  |cons r' rr=>
   cases rr
   obtain ⟨t,rfl⟩:=r
   obtain ⟨t',rfl⟩:=r'
   exact call_range_2 (range_it I1 q1 q2 q3 q4 q)
def tFor (wi:TI) (g:TG) (tb:TS):TS:=fun D σ H=>wi σ H fun J H1=>∃ W:Nat→Nat→St→Hp→Prop,(∃ m,W 0 m σ H1)∧∀ i m σ H,W i m σ H→
 (J.stop i H∧D.nx σ H)∨(J.go i H∧∃ N:St→Hp→Prop,(∀ σ' H',N σ' H'→∃ m',m' < m∧W (i + 1) m' σ' H')∧∀ x H',J.yld i H x H'→g x σ H' fun σ2 H2=>tb { D with nx:=N,ct:=N,bk:=D.nx } σ2 H2)
def pinsAt (fp:List Addr) (h:Heap):List (Addr × Obj):=fp.filterMap fun b=>(h.get? b).map fun o=>(b,o)
theorem mem_pinsAt {fp:List Addr} {h:Heap} {b:Addr} {o:Obj} (hb:b ∈ fp) (e:h.get? b=some o):(b,o) ∈ pinsAt fp h:=List.mem_filterMap.mpr ⟨b,hb,by rw [e]; rfl⟩
theorem of_pinsAt {fp:List Addr} {h:Heap} {p:Addr × Obj} (hp:p ∈ pinsAt fp h):p.1 ∈ fp∧h.get? p.1=some p.2:=by
 obtain ⟨b,hb,e⟩:=List.mem_filterMap.mp hp
 cases q:h.get? b with
 |none=>rw [q] at e; cases e
 |some o=>
  rw [q] at e
  have e':(b,o)=p:=Option.some.inj e
  subst e'
  exact ⟨hb,q⟩
theorem Inv.pinned {pins:List (Addr × Obj)} {σ:St} {H:Hp} {s:Shared} {fp:List Addr} (I:Inv X pins σ H s) (hf:∀ b ∈ fp,FpOk X pins H b) (ho:∀ b ∈ fp,∃ o,s.heap.get? b=some o∧∀ v,o.data ≠ .cell v):Inv X (pins ++ pinsAt fp s.heap) σ H s:=
 I.pins_of fun p hp=>(List.mem_append.mp hp).elim (fun z=>I.pin p (List.mem_append_right _ z)) fun z=>by
  obtain ⟨hb,e⟩:=of_pinsAt z
  obtain ⟨f0,f1,f2,_⟩:=hf p.1 hb
  obtain ⟨o,e',d⟩:=ho p.1 hb
  rw [e] at e'; cases e'
  exact ⟨e,f0,f1,f2,d⟩
theorem Inv.unpinned {pins pl:List (Addr × Obj)} {σ:St} {H:Hp} {s:Shared} (I:Inv X (pins ++ pl) σ H s):Inv X pins σ H s:=I.pins_of fun p hp=>I.pin p (List.mem_append_right _ (List.mem_append_left _ hp))
theorem ps_for {iter:Expr} {body:List Stmt} {wi:TI} {g:TG} {tb:TS} {pos:Pos} (hp:PassesOwn (model X.prog X.w) X.A X.env X.xe) (hc:X.calm=true) (hi:PI X tg iter wi) (hg:PG X tg g) (hb:PSs X body tb)
  (hs:∀ x,foldedSetIterable iter X.env x=pure x:=by intro _; rfl):PS X (.For tg iter body [] pos) (tFor wi g tb):=by
 intro pins s σ H D I h
 refine wpAny_For (thn (hi pins s σ H _ I h) fun v s1 h1=>thn h1 fun itv s2 h2=>?_) hs
 obtain ⟨it,fp,tn,J,H2,e,I2,T,st2,f2,W,⟨m0,w0⟩,turn⟩:=h2
 subst e
 have stat:∀ {H':Hp},(∀ b ∈ fp,H' b=none)→∀ b ∈ fp,FpOk X pins H' b:=fun hn b hb=>⟨hn b hb,(f2 b hb).2⟩
 refine codeAny_forLoop_any (fun n s'=>∃ i σ' H',Inv X pins σ' H' s'∧tn i s'.heap∧(∀ b ∈ fp,H' b=none)∧W i n σ' H') ?_ m0 ⟨0,σ,H2,I2,st2,fun b hb=>(f2 b hb).1,w0⟩
 rintro n s3 ⟨i,σ3,H3,I3,st3,fr3,w3⟩
 rcases turn i n σ3 H3 w3 with ⟨stop,qn⟩ | ⟨go,N,hN,step⟩
 ·refine wpAny_passesOwn hp (thn (T.done X rfl rfl rfl hc i pins s3 σ3 H3 X.xe I3 (stat fr3) st3 stop) fun r s4 ⟨hr,I4⟩=>?_)
  subst hr
  exact wpAny_execs_nil ⟨σ3,H3,I4,qn⟩
 ·refine wpAny_passesOwn hp (thn (T.item X rfl rfl rfl hc i pins s3 σ3 H3 X.xe I3 (stat fr3) st3 go) fun r s4 ⟨u,hr,h4⟩=>?_)
  subst hr
  refine wpAny_passesOwn hp (thn h4 fun _ s5 ⟨x,H5,I5,r5,y5,st5,fr5⟩=>?_)
  have I5':=I5.pinned (stat fr5) (T.obj _ _ st5)
  refine wpAny_passesOwn hp (thn (hg _ s5 σ3 H5 x u _ I5' r5 (step x H5 y5)) fun _ s6 ⟨σ6,H6,I6,q6⟩=>?_)
  refine wpAny_passesOwn hp (thn (hb _ s6 σ6 H6 _ I6 q6) fun f s7 q7=>?_)
  have again:∀ {σ7:St} {H7:Hp},Inv X (pins ++ pinsAt fp s5.heap) σ7 H7 s7→N σ7 H7→∃ m,m < n∧∃ i σ' H',Inv X pins σ' H' s7∧tn i s7.heap∧(∀ b ∈ fp,H' b=none)∧W i m σ' H':=fun {σ7 H7} I7 n7=>by
   obtain ⟨m',hm,w7⟩:=hN σ7 H7 n7
   refine ⟨m',hm,i + 1,σ7,H7,I7.unpinned,T.keep _ _ _ st5 fun b hb o e=>(I7.pin (b,o) (List.mem_append_right _ (List.mem_append_right _ (mem_pinsAt hb e)))).1,fun b hb=>?_,w7⟩
   obtain ⟨o,e,d⟩:=T.obj _ _ st5 b hb
   exact (I7.pin (b,o) (List.mem_append_right _ (List.mem_append_right _ (mem_pinsAt hb e)))).2.1
  cases f with
  |next=>obtain ⟨σ7,H7,I7,n7⟩:=q7; exact again I7 n7
  |cont=>obtain ⟨σ7,H7,I7,n7⟩:=q7; exact again I7 n7
  |brk=>obtain ⟨σ7,H7,I7,q7⟩:=q7; exact ⟨σ7,H7,I7.unpinned,q7⟩
  |ret v=>obtain ⟨x7,σ7,H7,I7,r7,q7⟩:=q7; exact ⟨x7,σ7,H7,I7.unpinned,r7,q7⟩
end
theorem for_list {K:PySem.W.Frag} {a:Addr} {xs:List V} {g:TG} {tb:TS} {D:Ends} {σ:St} {H:Hp} (Pv:Nat→St→Hp→Prop) (h0:Pv 0 σ H) (hl:∀ i σ H,i≤xs.length→Pv i σ H→SqL K H a xs)
  (hs:∀ i x σ H,xs[i]?=some x→Pv i σ H→g x σ H fun σ2 H2=>tb { D with nx:=Pv (i + 1),ct:=Pv (i + 1),bk:=D.nx } σ2 H2) (hd:∀ σ H,Pv xs.length σ H→D.nx σ H) :
  ∃ W:Nat→Nat→St→Hp→Prop,(∃ m,W 0 m σ H)∧∀ i m σ H,W i m σ H→
   ((Itl K a).stop i H∧D.nx σ H)∨((Itl K a).go i H∧∃ N:St→Hp→Prop,(∀ σ' H',N σ' H'→∃ m',m' < m∧W (i + 1) m' σ' H')∧∀ x H',(Itl K a).yld i H x H'→g x σ H' fun σ2 H2=>tb { D with nx:=N,ct:=N,bk:=D.nx } σ2 H2):=by
 refine ⟨fun i m σ H=>m=xs.length - i∧i≤xs.length∧Pv i σ H,⟨xs.length,by simp,Nat.zero_le _,h0⟩,?_⟩
 rintro i m σ H ⟨rfl,hi,p⟩
 have q:=hl i σ H hi p
 by_cases hlt:i < xs.length
 ·refine .inr ⟨⟨xs,xs[i],q,by simp [hlt]⟩,Pv (i + 1),fun σ' H' p'=>⟨xs.length - (i + 1),by omega,rfl,hlt,p'⟩,fun x H' y=>?_⟩
  obtain ⟨e,y⟩:=y
  subst e
  exact hs i x σ _ (y xs q) p
 ·have e:i=xs.length:=by omega
  subst e
  exact .inl ⟨⟨xs,q,Nat.le_refl _⟩,hd σ H p⟩
theorem for_range {lo:Int} {n:Nat} {g:TG} {tb:TS} {D:Ends} {σ:St} {H:Hp} (Pv:Nat→St→Hp→Prop) (h0:Pv 0 σ H)
  (hs:∀ i σ H,i < n→Pv i σ H→g (.int (lo + i)) σ H fun σ2 H2=>tb { D with nx:=Pv (i + 1),ct:=Pv (i + 1),bk:=D.nx } σ2 H2) (hd:∀ σ H,Pv n σ H→D.nx σ H) :
  ∃ W:Nat→Nat→St→Hp→Prop,(∃ m,W 0 m σ H)∧∀ i m σ H,W i m σ H→
   ((Itr lo n).stop i H∧D.nx σ H)∨((Itr lo n).go i H∧∃ N:St→Hp→Prop,(∀ σ' H',N σ' H'→∃ m',m' < m∧W (i + 1) m' σ' H')∧∀ x H',(Itr lo n).yld i H x H'→g x σ H' fun σ2 H2=>tb { D with nx:=N,ct:=N,bk:=D.nx } σ2 H2):=by
 refine ⟨fun i m σ H=>m=n - i∧i≤n∧Pv i σ H,⟨n,by simp,Nat.zero_le _,h0⟩,?_⟩
 rintro i m σ H ⟨rfl,hi,p⟩
 by_cases hlt:i < n
 ·refine .inr ⟨hlt,Pv (i + 1),fun σ' H' p'=>⟨n - (i + 1),by omega,rfl,hlt,p'⟩,fun x H' y=>?_⟩
  obtain ⟨e,y⟩:=y
  subst e y
  exact hs i σ _ hlt p
 ·have e:i=n:=by omega
  subst e
  exact .inl ⟨Nat.le_refl _,hd σ H p⟩
end L2
namespace L2
open PySem PySem.Spec PyProof.Rows
abbrev R2:=V→V→Hp→VK→Prop
def OpR (X:Cx) (f:Value→Value→Sem Value) (r:R2):Prop:=
 ∀ (pins:List (Addr × Obj)) (s:Shared) (σ:St) (H:Hp) (x y:V) (v u:Value) (Q:VK),Inv X pins σ H s→RelV x v→RelV y u→r x y H Q→
  wpAny (model X.prog X.w) X.A (f v u) (EP X pins σ Q) X.xe s
def UnR (X:Cx) (f:Value→Sem Value) (r:V→Hp→VK→Prop):Prop:=
 ∀ (pins:List (Addr × Obj)) (s:Shared) (σ:St) (H:Hp) (x:V) (v:Value) (Q:VK),Inv X pins σ H s→RelV x v→r x H Q→
  wpAny (model X.prog X.w) X.A (f v) (EP X pins σ Q) X.xe s
def CallR (X:Cx) (f:Value) (r:List V→Hp→VK→Prop):Prop:=
 ∀ (pins:List (Addr × Obj)) (s:Shared) (σ:St) (H:Hp) (xs:List V) (us:List Value) (Q:VK),Inv X pins σ H s→Vals xs us→r xs H Q→
  wpAny (model X.prog X.w) X.A (call f us) (EP X pins σ Q) X.xe s
def tOp (r:R2) (ta tb:TE):TE:=fun σ H Q=>ta σ H fun x H1=>tb σ H1 fun y H2=>r x y H2 Q
def tUn (r:V→Hp→VK→Prop) (ta:TE):TE:=fun σ H Q=>ta σ H fun x H1=>r x H1 Q
def rI (C:Int→Int→Prop) (g:Int→Int→V):R2:=fun x y H Q=>∃ i j,x=.int i∧y=.int j∧C i j∧Q (g i j) H
def rI0 (g:Int→Int→V):R2:=fun x y H Q=>∃ i j,x=.int i∧y=.int j∧Q (g i j) H
def rU (g:Int→V):V→Hp→VK→Prop:=fun x H Q=>∃ i,x=.int i∧Q (g i) H
section
variable {X:Cx} {a b c:Expr} {ta tb tc:TE} {pos:Pos}
theorem binT (ha:PE X a ta) (hb:PE X b tb) {pins:List (Addr × Obj)} {s:Shared} {σ:St} {H:Hp} {R:V→V→Hp→Prop} (I:Inv X pins σ H s)
  (h:ta σ H fun x H1=>tb σ H1 fun y H2=>R x y H2) {Q:Value→Shared→Prop} {f:Value→Value→Sem Value}
  (hf:∀ v u s2 x y H2,Inv X pins σ H2 s2→RelV x v→RelV y u→R x y H2→wpAny (model X.prog X.w) X.A (f v u) Q X.xe s2) :
  wpAny (model X.prog X.w) X.A (eval a X.env) (fun v s₁=>wpAny (model X.prog X.w) X.A (eval b X.env) (fun u s₂=>wpAny (model X.prog X.w) X.A (f v u) Q X.xe s₂) X.xe s₁) X.xe s:=by
 refine thn (ha pins s σ H _ I h) fun v s1 ⟨x,H1,I1,r1,q1⟩=>?_
 refine thn (hb pins s1 σ H1 _ I1 q1) fun u s2 ⟨y,H2,I2,r2,q2⟩=>?_
 exact hf v u s2 x y H2 I2 r1 r2 q2
theorem pe_op {op:Operator} {r:R2} (ho:OpR X (binaryOp op) r) (ha:PE X a ta) (hb:PE X b tb):PE X (.BinOp a op b pos) (tOp r ta tb):=by
 intro pins s σ H Q I h
 exact wpAny_BinOp (binT ha hb I h fun v u s2 x y H2 I2 rx ry q=>ho pins s2 σ H2 x y v u Q I2 rx ry q)
theorem pe_un {op:UnaryOp} {r:V→Hp→VK→Prop} (ho:UnR X (unaryOp op) r) (ha:PE X a ta):PE X (.UnaryOp op a pos) (tUn r ta):=by
 intro pins s σ H Q I h
 exact UnaryOp_ (thn (ha pins s σ H _ I h) fun v s1 ⟨x,H1,I1,r1,q1⟩=>ho pins s1 σ H1 x v Q I1 r1 q1)
theorem opI {f:Value→Value→Sem Value} {C:Int→Int→Prop} {g:Int→Int→Int}
  (rule:∀ (i j:Int) (t u:Tok) (s:Shared) (Q:Value→Shared→Prop) (E:Value→Shared→Prop),C i j→Q (.int (g i j) s.toks) { s with toks:=s.toks + 1 }→wpAny (model X.prog X.w) X.A (f (.int i t) (.int j u)) Q E s) :
  OpR X f (rI C fun i j=>.int (g i j)):=by
 intro pins s σ H x y v u Q I rx ry h
 obtain ⟨i,j,rfl,rfl,hc,q⟩:=h
 obtain ⟨t,rfl⟩:=rx
 obtain ⟨t',rfl⟩:=ry
 exact rule i j t t' s _ _ hc ⟨.int (g i j),H,I.tok _,⟨_,rfl⟩,q⟩
theorem opI0 {f:Value→Value→Sem Value} {g:Int→Int→Int}
  (rule:∀ (i j:Int) (t u:Tok) (s:Shared) (Q:Value→Shared→Prop) (E:Value→Shared→Prop),Q (.int (g i j) s.toks) { s with toks:=s.toks + 1 }→wpAny (model X.prog X.w) X.A (f (.int i t) (.int j u)) Q E s) :
  OpR X f (rI0 fun i j=>.int (g i j)):=by
 intro pins s σ H x y v u Q I rx ry h
 obtain ⟨i,j,rfl,rfl,q⟩:=h
 obtain ⟨t,rfl⟩:=rx
 obtain ⟨t',rfl⟩:=ry
 exact rule i j t t' s _ _ ⟨.int (g i j),H,I.tok _,⟨_,rfl⟩,q⟩
theorem opB0 {f:Value→Value→Sem Value} {g:Int→Int→Bool}
  (rule:∀ (i j:Int) (t u:Tok) (s:Shared) (Q:Value→Shared→Prop) (E:Value→Shared→Prop),Q (.bool (g i j)) s→wpAny (model X.prog X.w) X.A (f (.int i t) (.int j u)) Q E s) :
  OpR X f (rI0 fun i j=>.bl (g i j)):=by
 intro pins s σ H x y v u Q I rx ry h
 obtain ⟨i,j,rfl,rfl,q⟩:=h
 obtain ⟨t,rfl⟩:=rx
 obtain ⟨t',rfl⟩:=ry
 exact rule i j t t' s _ _ ⟨.bl (g i j),H,I,rfl,q⟩
def CDiv (i j:Int):Prop:=0 < j∧j < 1073741824
def CPow (i j:Int):Prop:=0≤j∧j≤1000000∧i.natAbs < 2 ^ 64
def CMul (i j:Int):Prop:=(-(2 ^ 64) < i∧i < 2 ^ 64)∨(-(2 ^ 64) < j∧j < 2 ^ 64)
theorem CMul.ok {i j:Int} (h:CMul i j):IntMulOk i j:=by
 rcases h with ⟨h1,h2⟩ | ⟨h1,h2⟩
 ·exact .of_left (intBits_le_64 h1 h2)
 ·exact .of_right (intBits_le_64 h1 h2)
theorem two_pow_nn (k:Nat):(0:Int)≤2 ^ k:=by
 rw [two_pow_cast]
 exact Int.natCast_nonneg _
theorem op_add:OpR X (binaryOp .Add) (rI0 fun i j=>.int (i + j)):=opI0 fun _ _ _ _ _ _ _ q=>add_int q
theorem op_sub:OpR X (binaryOp .Sub) (rI0 fun i j=>.int (i - j)):=opI0 fun _ _ _ _ _ _ _ q=>sub_int q
theorem op_mul:OpR X (binaryOp .Mult) (rI CMul fun i j=>.int (i * j)):=opI fun _ _ _ _ _ _ _ hc q=>mul_int q hc.ok
theorem op_fdiv:OpR X (binaryOp .FloorDiv) (rI CDiv fun i j=>.int (i / j)):=opI fun i j _ _ _ _ _ hc q=>by
 have h1:(0:Int) < j:=hc.1
 have h2:j < 1073741824:=hc.2
 exact floordiv_int (by omega) (by rw [Int.fdiv_eq_ediv_of_nonneg i (by omega)]; exact q) (.inl (PyProof.noPylong_small (by omega)))
theorem op_mod:OpR X (binaryOp .Mod) (rI (fun _ j=>0 < j) fun i j=>.int (i % j)):=opI fun i j _ _ _ _ _ hc q=>by
 have h1:(0:Int) < j:=hc
 exact mod_int' (by omega) (by rw [Int.fmod_eq_emod_of_nonneg i (by omega)]; exact q)
theorem op_shl:OpR X (binaryOp .LShift) (rI CPow fun i j=>.int (i * 2 ^ j.toNat)):=opI fun _ _ _ _ _ _ _ hc q=>lshift_int_small hc.1 hc.2.1 hc.2.2 q
theorem op_shr:OpR X (binaryOp .RShift) (rI (fun _ j=>0≤j) fun i j=>.int (i / 2 ^ j.toNat)):=opI fun i j _ _ _ _ _ hc q=>
 rshift_int hc (by rw [Int.fdiv_eq_ediv_of_nonneg i (two_pow_nn _)]; exact q)
theorem op_and:OpR X (binaryOp .BitAnd) (rI0 fun i j=>.int (Builtin.bitAnd i j)):=opI0 fun _ _ _ _ _ _ _ q=>and_int q
theorem op_or:OpR X (binaryOp .BitOr) (rI0 fun i j=>.int (Builtin.bitOr i j)):=opI0 fun _ _ _ _ _ _ _ q=>or_int q
theorem op_xor:OpR X (binaryOp .BitXor) (rI0 fun i j=>.int (Builtin.bitXor i j)):=opI0 fun _ _ _ _ _ _ _ q=>xor_int q
theorem unI {f:Value→Sem Value} {g:Int→Int}
  (rule:∀ (i:Int) (t:Tok) (s:Shared) (Q:Value→Shared→Prop) (E:Value→Shared→Prop),Q (.int (g i) s.toks) { s with toks:=s.toks + 1 }→wpAny (model X.prog X.w) X.A (f (.int i t)) Q E s) :
  UnR X f (rU fun i=>.int (g i)):=by
 intro pins s σ H x v Q I rx h
 obtain ⟨i,rfl,q⟩:=h
 obtain ⟨t,rfl⟩:=rx
 exact rule i t s _ _ ⟨.int (g i),H,I.tok _,⟨_,rfl⟩,q⟩
theorem un_neg:UnR X (unaryOp .USub) (rU fun i=>.int (-i)):=unI fun _ _ _ _ _ q=>neg_int q
end
def scal:V→V→Bool
 | .non,.non=>true | .non,.int _=>true | .int _,.non=>true | .non,.bl _=>true | .bl _,.non=>true | .non,.str _=>true | .str _,.non=>true
 | .int _,.int _=>true | .bl _,.bl _=>true | .str _,.str _=>true | .byt _,.byt _=>true
 | .int _,.str _=>true | .str _,.int _=>true | .bl _,.str _=>true | .str _,.bl _=>true
 |_,_=>false
def rEq:R2:=fun x y H Q=>scal x y=true∧Q (.bl (decide (x=y))) H
def rNe:R2:=fun x y H Q=>scal x y=true∧Q (.bl (!decide (x=y))) H
theorem dec_int {i j:Int}:decide (V.int i=V.int j)=(i == j):=by
 rw [Bool.eq_iff_iff]
 simp
theorem dec_bl {i j:Bool}:decide (V.bl i=V.bl j)=(i == j):=by
 rw [Bool.eq_iff_iff]
 simp
theorem dec_str {i j:Str}:decide (V.str i=V.str j)=(i == j):=by
 rw [Bool.eq_iff_iff]
 simp
theorem dec_byt {i j:Array UInt8}:decide (V.byt i=V.byt j)=(i.toList == j.toList):=by
 rw [Bool.eq_iff_iff]
 cases i
 cases j
 simp
section
variable {X:Cx} {a b c:Expr} {ta tb tc:TE} {pos:Pos}
theorem fin_bl {pins:List (Addr × Obj)} {σ:St} {H:Hp} {s:Shared} {Q:VK} {k k':Bool} (I:Inv X pins σ H s) (q:Q (.bl k) H) (e:k=k'):EP X pins σ Q (.bool k') s:=by
 subst e
 exact ⟨.bl k,H,I,rfl,q⟩
theorem op_eq:OpR X (compareOp .Eq) rEq:=by
 intro pins s σ H x y v u Q I rx ry h
 obtain ⟨hs,q⟩:=h
 cases x with
 |non=>
  cases rx
  cases y with
  |non=>cases ry; exact PySem.EqNone.eq_none_none (fin_bl I q (by simp))
  |bl j=>cases ry; exact PySem.EqNone.eq_none_bool (fin_bl I q (by simp))
  |int j=>obtain ⟨t',rfl⟩:=ry; exact PySem.EqNone.eq_none_int (fin_bl I q (by simp))
  |str j=>obtain ⟨t',rfl⟩:=ry; exact PySem.EqNone.eq_none_str (fin_bl I q (by simp))
  |_=>exact absurd (show false=true from hs) Bool.false_ne_true
 |bl i=>
  cases rx
  cases y with
  |non=>cases ry; exact PySem.EqNone.eq_bool_none (fin_bl I q (by simp))
  |bl j=>cases ry; exact eq_bool (fin_bl I q dec_bl)
  |str j=>obtain ⟨t',rfl⟩:=ry; exact PySem.EqMixed.eq_bool_str (fin_bl I q (by simp))
  |_=>exact absurd (show false=true from hs) Bool.false_ne_true
 |int i=>
  obtain ⟨t,rfl⟩:=rx
  cases y with
  |non=>cases ry; exact PySem.EqNone.eq_int_none (fin_bl I q (by simp))
  |int j=>obtain ⟨t',rfl⟩:=ry; exact eq_int (fin_bl I q dec_int)
  |str j=>obtain ⟨t',rfl⟩:=ry; exact PySem.EqMixed.eq_int_str (fin_bl I q (by simp))
  |_=>exact absurd (show false=true from hs) Bool.false_ne_true
 |str i=>
  obtain ⟨t,rfl⟩:=rx
  cases y with
  |non=>cases ry; exact PySem.EqNone.eq_str_none (fin_bl I q (by simp))
  |bl j=>cases ry; exact PySem.EqMixed.eq_str_bool (fin_bl I q (by simp))
  |int j=>obtain ⟨t',rfl⟩:=ry; exact PySem.EqMixed.eq_str_int (fin_bl I q (by simp))
  |str j=>obtain ⟨t',rfl⟩:=ry; exact eq_str (fin_bl I q dec_str)
  |_=>exact absurd (show false=true from hs) Bool.false_ne_true
 |byt i=>
  obtain ⟨t,rfl⟩:=rx
  cases y with
  |byt j=>obtain ⟨t',rfl⟩:=ry; exact PySem.W.eq_bytes (fin_bl I q dec_byt)
  |_=>exact absurd (show false=true from hs) Bool.false_ne_true
 |_=>cases y <;> exact absurd (show false=true from hs) Bool.false_ne_true
theorem op_ne:OpR X (compareOp .NotEq) rNe:=by
 intro pins s σ H x y v u Q I rx ry h
 obtain ⟨hs,q⟩:=h
 cases x with
 |non=>
  cases rx
  cases y with
  |non=>cases ry; exact PySem.EqNone.ne_none_none (fin_bl I q (by simp))
  |bl j=>cases ry; exact PySem.EqNone.ne_none_bool (fin_bl I q (by simp))
  |int j=>obtain ⟨t',rfl⟩:=ry; exact PySem.EqNone.ne_none_int (fin_bl I q (by simp))
  |str j=>obtain ⟨t',rfl⟩:=ry; exact PySem.EqNone.ne_none_str (fin_bl I q (by simp))
  |_=>exact absurd (show false=true from hs) Bool.false_ne_true
 |bl i=>
  cases rx
  cases y with
  |non=>cases ry; exact PySem.EqNone.ne_bool_none (fin_bl I q (by simp))
  |bl j=>cases ry; exact ne_bool (fin_bl I q (congrArg not dec_bl))
  |str j=>obtain ⟨t',rfl⟩:=ry; exact PySem.EqMixed.ne_bool_str (fin_bl I q (by simp))
  |_=>exact absurd (show false=true from hs) Bool.false_ne_true
 |int i=>
  obtain ⟨t,rfl⟩:=rx
  cases y with
  |non=>cases ry; exact PySem.EqNone.ne_int_none (fin_bl I q (by simp))
  |int j=>obtain ⟨t',rfl⟩:=ry; exact ne_int (fin_bl I q (congrArg not dec_int))
  |str j=>obtain ⟨t',rfl⟩:=ry; exact PySem.EqMixed.ne_int_str (fin_bl I q (by simp))
  |_=>exact absurd (show false=true from hs) Bool.false_ne_true
 |str i=>
  obtain ⟨t,rfl⟩:=rx
  cases y with
  |non=>cases ry; exact PySem.EqNone.ne_str_none (fin_bl I q (by simp))
  |bl j=>cases ry; exact PySem.EqMixed.ne_str_bool (fin_bl I q (by simp))
  |int j=>obtain ⟨t',rfl⟩:=ry; exact PySem.EqMixed.ne_str_int (fin_bl I q (by simp))
  |str j=>obtain ⟨t',rfl⟩:=ry; exact ne_str (fin_bl I q (congrArg not dec_str))
  |_=>exact absurd (show false=true from hs) Bool.false_ne_true
 |byt i=>
  obtain ⟨t,rfl⟩:=rx
  cases y with
  |byt j=>obtain ⟨t',rfl⟩:=ry; exact PySem.W.ne_bytes (fin_bl I q (congrArg not dec_byt))
  |_=>exact absurd (show false=true from hs) Bool.false_ne_true
 |_=>cases y <;> exact absurd (show false=true from hs) Bool.false_ne_true
theorem op_lt:OpR X (compareOp .Lt) (rI0 fun i j=>.bl (decide (i < j))):=opB0 fun _ _ _ _ _ _ _ q=>lt_int q
theorem op_le:OpR X (compareOp .LtE) (rI0 fun i j=>.bl (decide (i≤j))):=opB0 fun _ _ _ _ _ _ _ q=>le_int q
theorem op_gt:OpR X (compareOp .Gt) (rI0 fun i j=>.bl (decide (j < i))):=opB0 fun _ _ _ _ _ _ _ q=>gt_int q
theorem op_ge:OpR X (compareOp .GtE) (rI0 fun i j=>.bl (decide (j≤i))):=opB0 fun _ _ _ _ _ _ _ q=>ge_int q
theorem nomark (b:Expr) {op:CmpOp} (h:op ≠ .In:=by decide) (h2:op ≠ .NotIn:=by decide):behindInMarks op b=false:=by
 have e1:(op == CmpOp.In)=false:=by cases op <;> first | rfl | exact absurd rfl h
 have e2:(op == CmpOp.NotIn)=false:=by cases op <;> first | rfl | exact absurd rfl h2
 cases b <;> simp [behindInMarks,e1,e2]
theorem pe_cmpR {op:CmpOp} {r:R2} (ho:OpR X (compareOp op) r) (ha:PE X a ta) (hb:PE X b tb) (hm:behindInMarks op b=false):PE X (.Compare a [op] [b] pos) (tOp r ta tb):=by
 intro pins s σ H Q I h
 exact wpAny_Compare1 (binT ha hb I h fun v u s2 x y H2 I2 rx ry q=>ho pins s2 σ H2 x y v u Q I2 rx ry q) hm
def tTest (t:TE):TT:=fun σ H Q=>t σ H fun x H'=>∃ k,x=.bl k∧Q k H'
theorem pt_cmpR {op:CmpOp} {r:R2} (ho:OpR X (compareOp op) r) (ha:PE X a ta) (hb:PE X b tb) (hm:behindInMarks op b=false):PT X (.Compare a [op] [b] pos) (tTest (tOp r ta tb)):=by
 intro pins s σ H Q I h
 refine wpAny_isTrue_Compare1 (thn (ha pins s σ H _ I h) fun v s1 ⟨x,H1,I1,r1,q1⟩=>thn (hb pins s1 σ H1 _ I1 q1) fun u s2 ⟨y,H2,I2,r2,q2⟩=>
  thn (ho pins s2 σ H2 x y v u _ I2 r1 r2 q2) fun c s3 ⟨z,H3,I3,r3,k,e,q3⟩=>?_) hm
 subst e
 cases r3
 exact wpAny_truthy_bool ⟨H3,I3,q3⟩
def tChain (r r':R2) (ta tb tc:TE):TE:=fun σ H Q=>ta σ H fun x H1=>tb σ H1 fun y H2=>r x y H2 fun z H3=>∃ k,z=.bl k∧
 (if k=true then tc σ H3 fun w' H4=>r' y w' H4 Q else Q (.bl false) H3)
theorem pe_chain {op op':CmpOp} {r r':R2} (ho:OpR X (compareOp op) r) (ho':OpR X (compareOp op') r') (ha:PE X a ta) (hb:PE X b tb) (hc:PE X c tc)
  (hm:lastMarks [op,op'] [b,c]=false:=by with_unfolding_all rfl):PE X (.Compare a [op,op'] [b,c] pos) (tChain r r' ta tb tc):=by
 intro pins s σ H Q I h
 refine Compare_chain (thn (ha pins s σ H _ I h) fun v s1 ⟨x,H1,I1,r1,q1⟩=>chain_link (thn (hb pins s1 σ H1 _ I1 q1) fun u s2 ⟨y,H2,I2,r2,q2⟩=>
  thn (ho pins s2 σ H2 x y v u _ I2 r1 r2 q2) fun d s3 ⟨z,H3,I3,r3,k,e,q3⟩=>?_)) hm
 subst e
 cases r3
 refine wpAny_truthy_bool ?_
 cases k with
 |false=>exact ite_ff ⟨.bl false,H3,I3,rfl,q3⟩
 |true=>exact ite_tt (chain_last (thn (hc pins s3 σ H3 _ I3 q3) fun w' s4 ⟨z',H4,I4,r4,q4⟩=>ho' pins s4 σ H4 y z' u w' Q I4 r2 r4 q4))
theorem pt_chain {op op':CmpOp} {r r':R2} (ho:OpR X (compareOp op) r) (ho':OpR X (compareOp op') r') (ha:PE X a ta) (hb:PE X b tb) (hc:PE X c tc)
  (hm:lastMarks [op,op'] [b,c]=false:=by with_unfolding_all rfl):PT X (.Compare a [op,op'] [b,c] pos) (tTest (tChain r r' ta tb tc)):=by
 intro pins s σ H Q I h
 refine isTrue_chain (thn (ha pins s σ H _ I h) fun v s1 ⟨x,H1,I1,r1,q1⟩=>test_link (thn (hb pins s1 σ H1 _ I1 q1) fun u s2 ⟨y,H2,I2,r2,q2⟩=>
  thn (ho pins s2 σ H2 x y v u _ I2 r1 r2 q2) fun d s3 ⟨z,H3,I3,r3,k,e,q3⟩=>?_)) hm
 subst e
 cases r3
 refine wpAny_truthy_bool ?_
 cases k with
 |false=>
  obtain ⟨k',e',q'⟩:=q3
  cases e'
  exact ite_ff ⟨H3,I3,q'⟩
 |true=>
  refine ite_tt (test_last (thn (hc pins s3 σ H3 _ I3 q3) fun w' s4 ⟨z',H4,I4,r4,q4⟩=>thn (ho' pins s4 σ H4 y z' u w' _ I4 r2 r4 q4) fun d' s5 ⟨z2,H5,I5,r5,k2,e2,q5⟩=>?_))
  subst e2
  cases r5
  exact wpAny_truthy_bool ⟨H5,I5,q5⟩
theorem line63:(sizeLine:Nat) < 2 ^ 63:=by rw [sizeLine_eq]; decide
theorem vals1 {x:V} {us:List Value} (r:Vals [x] us):∃ u,us=[u]∧RelV x u:=by
 cases r with
 |cons r1 r2=>cases r2; exact ⟨_,rfl,r1⟩
theorem vals2 {x y:V} {us:List Value} (r:Vals [x,y] us):∃ u w',us=[u,w']∧RelV x u∧RelV y w':=by
 cases r with
 |cons r1 r2=>
  cases r2 with
  |cons r3 r4=>cases r4; exact ⟨_,_,rfl,r1,r3⟩
theorem call_max2 (hc:X.calm=true):CallR X (.builtin "max") (fun xs H Q=>∃ i j,xs=[.int i,.int j]∧Q (.int (if j > i then j else i)) H):=by
 intro pins s σ H xs us Q I r h
 obtain ⟨i,j,rfl,q⟩:=h
 obtain ⟨u,w',rfl,⟨t,rfl⟩,⟨t',rfl⟩⟩:=vals2 r
 refine max_two_ints (I.ok.hd hc) fun h' tk k=>⟨_,H,I.kept k,?_,q⟩
 by_cases hj:j > i
 ·rw [if_pos hj,if_pos hj]; exact ⟨_,rfl⟩
 ·rw [if_neg hj,if_neg hj]; exact ⟨_,rfl⟩
end
end L2
namespace L2
open PySem PySem.Spec PyProof.Rows
structure ObjM (h:Heap) (x dx C:Addr) (mA:Str→Option Value):Prop where
 obj:h.get? x=some (PySem.W.instObj C dx)
 ns:h.Ns1 dx mA
 ne:dx ≠ x
theorem lookIn_ns {h:Heap} {dx:Addr} {mA:Str→Option Value} (n:h.Ns1 dx mA):∃ od,h.get? dx=some od∧∀ name,PySem.W.lookIn name od=some (mA name):=by
 obtain ⟨o,es,ep,ho,hd,hk,_,hm⟩:=n
 refine ⟨o,ho,fun name=>?_⟩
 have e:=hm name
 unfold nsFind findBy at e
 rw [← Array.find?_toList] at e
 unfold PySem.W.lookIn
 rw [hd]
 dsimp only
 split
 ·rename_i y q
  rw [q] at e
  exact congrArg some e
 ·rename_i q
  rw [q] at e
  have a:es.toList.any (·.refKey)=false:=by
   rw [List.any_eq_false]
   intro y hy
   obtain ⟨z,t,hkey⟩:=hk y (Array.mem_toList_iff.mp hy)
   simp [DictEntry.refKey,hkey]
  have a':¬ es.toList.any (·.refKey)=true:=by rw [a]; exact Bool.false_ne_true
  rw [if_neg a']
  exact congrArg some e
theorem ObjM.look {h:Heap} {x dx C:Addr} {mA:Str→Option Value} (I:ObjM h x dx C mA):∃ od,PySem.W.InstAt h x (PySem.W.instObj C dx) C (some od)∧∀ name,PySem.W.lookIn name od=some (mA name):=
 let ⟨od,ho,hl⟩:=lookIn_ns I.ns
 ⟨od,⟨I.obj,rfl,rfl,ho⟩,hl⟩
section
variable {prog:Program} {w:World} {A:Around} {E:Value→Shared→Prop} {s:Shared} {K:PySem.W.Frag} {x dx C f:Addr} {mA:Str→Option Value} {name:Str} {v:Value}
theorem get_map {expr:Bool} {Q:Value→Shared→Prop} (X:K.In s.heap) (I:ObjM s.heap x dx C mA) (hg:PySem.W.plainGet K C name=true) (hh:PySem.W.hasDictIn K C=true)
  (ha:PySem.W.findIn K (.ref C) name=some none) (hv:mA name=some v) (hv':PySem.W.handedIn v=true) (h:Q v { s with toks:=s.toks + 1 }) :
  wpAny (model prog w) A (getAttr (.ref x) name expr) Q E s:=by
 obtain ⟨od,J,hl⟩:=I.look
 exact PySem.W.get_value X J (PySem.W.plainGet_of hg).1 (PySem.W.findObj_own hh ha rfl (by rw [hl,hv])) hv' h
theorem get_meth {pl:Sem Bool} {Q:Value × List Value→Shared→Prop} (X:K.In s.heap) (I:ObjM s.heap x dx C mA) (hg:PySem.W.plainGet K C name=true)
  (hf:PySem.W.findIn K (.ref C) name=some (some (.ref f))) (ht:PySem.W.isFn K (.ref f)=true) (hv:mA name=none) (h:Q (.ref f,[.ref x]) s) :
  wpAny (model prog w) A (getMethod (.ref x) name pl) Q E s:=by
 obtain ⟨od,J,hl⟩:=I.look
 exact PySem.W.method_fn X J (PySem.W.plainGet_of hg).1 (PySem.W.plainGet_of hg).2 hf (beq_iff_eq.mp ht) (by show (PySem.W.lookIn name od).map (·.isSome)=some false; rw [hl,hv]; rfl) h
theorem set_map {ns:List Str} {Q:Unit→Shared→Prop} (X:K.In s.heap) (I:ObjM s.heap x dx C mA)
  (hs:PySem.W.findIn K (.ref C) "__setattr__"=some (some (.builtin "object.__setattr__"))) (hp:PySem.W.plainOver K C=true) (ht:PySem.W.takerIn K C name=some none) (hh:PySem.W.hasDictIn K C=true)
  (hw:PySem.Within mA ns) (hsz:ns.length≤sizeLine)
  (h:∀ h',ObjM h' x dx C (fun y=>if y=name then some v else mA y)→Heap.SameBut dx s.heap h'→Q () { s with heap:=h',toks:=s.toks + 2 }) :
  wpAny (model prog w) A (setAttr (.ref x) name v) Q E s:=by
 obtain ⟨od,J,hl⟩:=I.look
 refine PySem.W.set_plain X J hs (PySem.W.osa_open (s:={ s with toks:=s.toks + 1 }) (r:=none) X J hp ht fun b=>?_)
 obtain ⟨cd,hc,hd'⟩:=PySem.W.any_some hh
 have hx:s.heap.get? x=some ⟨.ref C,some dx,.plain,#[]⟩:=I.obj
 refine wpAny_bind (wpAny_pure (wpAny_bind (wpAny_bind (wpAny_loadPart hx (wpAny_bind (PySem.W.Looks.here (s:={ s with toks:=s.toks + 1 }) (PySem.W.looks_clsIn X hc) ?_))))))
 rw [hd']
 refine wpAny_pure (a:=some dx) (wpAny_bind (wpAny_pure (wpAny_bind ?_)))
 refine wpAny_nsSet1 (s:={ s with toks:=s.toks + 1 }) I.ns fun h' hn2 hs2=>?_
 obtain ⟨oD,esD,epD,hoD,hdD,hcD⟩:=hn2.count (PySem.Within.cons name v hw)
 refine wpAny_bind (wpAny_lookBehind hoD (by rw [hdD]; exact pastItsLine_dict (Nat.le_trans hcD (by rw [List.length_cons]; omega))) ?_)
 exact wpAny_pure (h _ ⟨(hs2.2 _ (Ne.symm I.ne)).trans I.obj,hn2,I.ne⟩ hs2)
theorem make_map {R:Result→Shared→Prop} {vs:List Value} {kw:List (Str × Value)} (X:K.In s.heap) (hm:PySem.W.makesIn K C=true)
  (hi:PySem.W.findIn K (.ref C) "__init__"=some (some (.ref f))) (hf:PySem.W.typeIn K (.ref f)=some (.type "function"))
  (h:codeAny (model prog w) (A.under (.builtin "type.__call__" ⟨.ref C::vs,kw⟩)) (.call (.ref f) ⟨.ref (s.heap.objs.size + 1)::vs,kw⟩) (PySem.W.InitBack (s.heap.objs.size + 1) R)
   { s with heap:=(s.heap.push PySem.W.emptyDict).push (PySem.W.instObj C s.heap.objs.size) }) :
  codeAny (model prog w) A (.call (.ref C) ⟨vs,kw⟩) R s:=by
 obtain ⟨hh,g,d,t,os⟩:=s
 exact PySem.W.make_core (PySem.W.makes_of X hm) (PySem.W.looks_findIn X hi) (fun self=>PySem.W.bind_fn X self hf) (.inl rfl) h
end
def putF (f:Str) (v:V):List (Str × V)→List (Str × V)
 | []=>[(f,v)]
 |(g,x)::r=>if g=f then (g,v)::r else (g,x)::putF f v r
theorem lookup_putF (f g:Str) (v:V):∀ fs:List (Str × V),(putF f v fs).lookup g=if g=f then some v else fs.lookup g
 | []=>by
  show List.lookup g [(f,v)]=_
  by_cases h:g=f
  ·have hb:(g == f)=true:=beq_iff_eq.mpr h
   simp only [List.lookup,hb,if_pos h]
  ·have hb:(g == f)=false:=beq_eq_false_iff_ne.mpr h
   simp only [List.lookup,hb,if_neg h]
 |(k,x)::r=>by
  have ih:=lookup_putF f g v r
  rw [show putF f v ((k,x)::r)=(if k=f then (k,v)::r else (k,x)::putF f v r) from rfl]
  by_cases hk:k=f
  ·rw [if_pos hk]
   by_cases h:g=k
   ·have hb:(g == k)=true:=beq_iff_eq.mpr h
    simp only [List.lookup,hb,if_pos (h.trans hk)]
   ·have hb:(g == k)=false:=beq_eq_false_iff_ne.mpr h
    simp only [List.lookup,hb,if_neg (fun e:g=f=>h (e.trans hk.symm))]
  ·rw [if_neg hk]
   by_cases h:g=k
   ·have hb:(g == k)=true:=beq_iff_eq.mpr h
    simp only [List.lookup,hb,if_neg (fun e:g=f=>hk (h.symm.trans e))]
   ·have hb:(g == k)=false:=beq_eq_false_iff_ne.mpr h
    simp only [List.lookup,hb]
    exact ih
theorem keys_putF (f:Str) (v:V):∀ fs:List (Str × V),f ∈ (putF f v fs).map (·.1)∧∀ g,g ∈ fs.map (·.1)→g ∈ (putF f v fs).map (·.1)
 | []=>⟨by simp [putF],fun g h=>by simp at h⟩
 |(k,x)::r=>by
  obtain ⟨i1,i2⟩:=keys_putF f v r
  rw [show putF f v ((k,x)::r)=(if k=f then (k,v)::r else (k,x)::putF f v r) from rfl]
  by_cases hk:k=f
  ·rw [if_pos hk]
   subst hk
   exact ⟨by simp,fun g h=>by simpa using h⟩
  ·rw [if_neg hk]
   refine ⟨?_,fun g h=>?_⟩
   ·rw [List.map_cons]
    exact List.mem_cons_of_mem _ i1
   ·rw [List.map_cons] at h ⊢
    rcases List.mem_cons.mp h with e | e
    ·exact List.mem_cons.mpr (.inl e)
    ·exact List.mem_cons_of_mem _ (i2 g e)
theorem length_putF (f:Str) (v:V):∀ fs:List (Str × V),(putF f v fs).length≤fs.length + 1
 | []=>by simp [putF]
 |(k,x)::r=>by
  have ih:=length_putF f v r
  rw [show putF f v ((k,x)::r)=(if k=f then (k,v)::r else (k,x)::putF f v r) from rfl]
  by_cases hk:k=f
  ·rw [if_pos hk,List.length_cons,List.length_cons]; omega
  ·rw [if_neg hk,List.length_cons,List.length_cons]; omega
theorem RelO.some_of {v:V} {o:Option Value} (r:RelO (some v) o):∃ u,o=some u∧RelV v u:=by
 cases o with
 |none=>exact (show False from r).elim
 |some u=>exact ⟨u,rfl,r⟩
theorem RelO.none_of {o:Option Value} (r:RelO none o):o=none:=by
 cases o with
 |none=>rfl
 |some u=>exact (show False from r).elim
theorem handed_of {v:V} {u:Value} (r:RelV v u):PySem.W.handedIn u=true:=by
 cases v with
 |non=>cases (show u=Value.none from r); rfl
 |bl b=>cases (show u=Value.bool b from r); rfl
 |int i=>obtain ⟨t,e⟩:=(show ∃ t,u=Value.int i t from r); cases e; rfl
 |str x=>obtain ⟨t,e⟩:=(show ∃ t,u=Value.str x t from r); cases e; rfl
 |byt b=>obtain ⟨t,e⟩:=(show ∃ t,u=Value.bytes b t from r); cases e; rfl
 |flt b=>obtain ⟨t,e⟩:=(show ∃ t,u=Value.float b t from r); cases e; rfl
 |ref a=>cases (show u=Value.ref a from r); rfl
 |ty n=>cases (show u=Value.type n from r); rfl
section
variable {P:Program} {w:World} {H H':Hp} {h h':Heap} {a C dx:Addr} {fs fs':List (Str × V)}
theorem ins_get (hok:HOk P w H h) (e:H a=some (.ins C dx fs)):∃ mA,ObjM h a dx C mA∧(∀ f,RelO (fs.lookup f) (mA f))∧PySem.Within mA (fs.map (·.1))∧fs.length≤1000∧H dx=some (.own a):=by
 obtain ⟨d,z,ne,ob,mA,n,r,q⟩:=(show ObjOk P w H h a (.ins C dx fs) from hok a _ e)
 exact ⟨mA,⟨ob,n,ne⟩,r,q,z,d⟩
end
structure Cls (K:PySem.W.Frag) (C:Addr):Prop where
 pg:PySem.W.plainGet K C Str.empty=true
 hd:PySem.W.hasDictIn K C=true
 po:PySem.W.plainOver K C=true
 sa:PySem.W.findIn K (.ref C) "__setattr__"=some (some (.builtin "object.__setattr__"))
theorem Cls.get {K:PySem.W.Frag} {C:Addr} (c:Cls K C) (f:Str):PySem.W.plainGet K C f=true:=c.pg
def NoAttr (K:PySem.W.Frag) (C:Addr) (f:Str):Prop:=PySem.W.findIn K (.ref C) f=some none
theorem NoAttr.taker {K:PySem.W.Frag} {C:Addr} {f:Str} (n:NoAttr K C f):PySem.W.takerIn K C f=some none:=by
 unfold PySem.W.takerIn
 rw [show PySem.W.findIn K (.ref C) f=some none from n]
 rfl
structure Meth (K:PySem.W.Frag) (C:Addr) (m:Str) (f:Addr):Prop where
 at_:PySem.W.findIn K (.ref C) m=some (some (.ref f))
 fn:PySem.W.isFn K (.ref f)=true
 kp:PySem.W.keepIn K (.ref f)=true
section
variable {X:Cx} {pins:List (Addr × Obj)} {σ:St} {H:Hp} {s:Shared} {a C dx:Addr} {fs:List (Str × V)} {f:Str} {v:V} {A:Around} {E:Value→Shared→Prop}
theorem getattr_ok {b:Bool} {Q:Value→Shared→Prop} (I:Inv X pins σ H s) (e:H a=some (.ins C dx fs)) (c:Cls X.K C) (n:NoAttr X.K C f) (l:fs.lookup f=some v)
  (h:∀ u s',Inv X pins σ H s'→RelV v u→Q u s'):wpAny (model X.prog X.w) A (getAttr (.ref a) f b) Q E s:=by
 obtain ⟨mA,O,r,_,_,_⟩:=ins_get I.hok e
 obtain ⟨u,hu,ru⟩:=RelO.some_of (v:=v) (o:=mA f) (by rw [← l]; exact r f)
 exact get_map I.kIn O (c.get f) c.hd n hu (handed_of ru) (h u _ (I.tok _) ru)
theorem getmeth_ok {m:Str} {g:Addr} {pl:Sem Bool} {Q:Value × List Value→Shared→Prop} (I:Inv X pins σ H s) (e:H a=some (.ins C dx fs)) (c:Cls X.K C) (k:Meth X.K C m g) (l:fs.lookup m=none)
  (h:Q (.ref g,[.ref a]) s):wpAny (model X.prog X.w) A (getMethod (.ref a) m pl) Q E s:=by
 obtain ⟨mA,O,r,_,_,_⟩:=ins_get I.hok e
 have hn:mA m=none:=RelO.none_of (by rw [← l]; exact r m)
 exact get_meth I.kIn O (c.get m) k.at_ k.fn hn h
theorem setattr_ok {y:V} {u:Value} {Q:Unit→Shared→Prop} (I:Inv X pins σ H s) (e:H a=some (.ins C dx fs)) (c:Cls X.K C) (n:NoAttr X.K C f) (hl:fs.length < 1000) (ry:RelV y u)
  (h:∀ s',Inv X pins σ (upd H a (.ins C dx (putF f y fs))) s'→Q () s'):wpAny (model X.prog X.w) A (setAttr (.ref a) f u) Q E s:=by
 obtain ⟨mA,O,r,wi,_,ho⟩:=ins_get I.hok e
 have hz:(fs.map (·.1)).length≤sizeLine:=by rw [List.length_map,sizeLine_eq]; omega
 refine set_map I.kIn O c.sa c.po n.taker c.hd wi hz fun h' O' sb=>h _ ?_
 have hd:∃ o,h'.get? dx=some o:=let ⟨o,_,_,e',_⟩:=O'.ns; ⟨o,e'⟩
 refine I.write (x:=a) (e:=dx) (by rw [e]; exact True.intro) (.inr ho) (fun b q hb z=>(sb.2 b hb).trans z) hd ?_
 refine ⟨by rw [upd_ne O.ne]; exact ho,?_,O.ne,O'.obj,_,O'.ns,fun g=>?_,fun g hg=>?_⟩
 ·have:=length_putF f y fs; omega
 ·show RelO ((putF f y fs).lookup g) (if g=f then some u else mA g)
  rw [lookup_putF]
  by_cases q:g=f
  ·rw [if_pos q,if_pos q]; exact ry
  ·rw [if_neg q,if_neg q]; exact r g
 ·by_cases q:g=f
  ·rw [q]; exact (keys_putF f y fs).1
  ·refine (keys_putF f y fs).2 g (wi g fun z=>hg ?_)
   show (if g=f then some u else mA g)=none
   rw [if_neg q]; exact z
theorem Inv.made (I:Inv X pins σ H s):Inv X pins σ (upd (upd H s.heap.objs.size (.own (s.heap.objs.size + 1))) (s.heap.objs.size + 1) (.ins C s.heap.objs.size []))
  { s with heap:=(s.heap.push PySem.W.emptyDict).push (PySem.W.instObj C s.heap.objs.size) }:=by
 have e1:(s.heap.push PySem.W.emptyDict).get? s.heap.objs.size=some PySem.W.emptyDict:=Heap.get?_push_size s.heap rfl
 have e2:((s.heap.push PySem.W.emptyDict).push (PySem.W.instObj C s.heap.objs.size)).get? (s.heap.objs.size + 1)=some (PySem.W.instObj C s.heap.objs.size):=by
  have:=Heap.get?_push_size (s.heap.push PySem.W.emptyDict) (o:=PySem.W.instObj C s.heap.objs.size) rfl
  rwa [Heap.size_push] at this
 have e3:(s.heap.push PySem.W.emptyDict).Ns s.heap.objs.size (fun _=>none):=⟨PySem.W.emptyDict,#[],_,e1,rfl,(fun e he=>absurd he (by simp)),fun _=>rfl⟩
 have I1:=I.laid (a:=s.heap.objs.size) (o:=.own (s.heap.objs.size + 1)) (h':=s.heap.push PySem.W.emptyDict) (t':=s.toks) (fun b u q=>Heap.get?_push_of_some _ q) (Nat.le_refl _) ⟨_,e1⟩
 refine I1.laid (a:=s.heap.objs.size + 1) (o:=.ins C s.heap.objs.size []) (t':=s.toks) (fun b u q=>Heap.get?_push_of_some _ q) (Nat.le_of_eq (Heap.size_push _ _)) ?_
 have ne:s.heap.objs.size ≠ s.heap.objs.size + 1:=Nat.ne_of_lt (Nat.lt_succ_self _)
 refine ⟨by rw [upd_ne ne,upd_same],Nat.zero_le _,ne,e2,fun _=>none,(Heap.Ns1.of_empty e3).at fun o q=>Heap.get?_push_of_some _ q,fun _=>True.intro,fun y hy=>absurd rfl hy⟩
theorem attr_of {prog:Program} {w:World} {env:Env} {e:Expr} {f:Str} {pos:Pos} {s:Shared} {Q:Value→Shared→Prop} (hb:attributeBase e f env (eval e env)=eval e env)
  (h:wpAny (model prog w) A (eval e env) (fun o s₁=>wpAny (model prog w) A (getAttr o f true) Q E s₁) E s):wpAny (model prog w) A (eval (.Attribute e f pos) env) Q E s:=
 Attribute_any_ h (by rw [arm_eval_Attribute,hb])
end
def tFld (K:PySem.W.Frag) (ta:TE) (f:Str):TE:=fun σ H Q=>ta σ H fun x H1=>∃ a C dx fs v,x=.ref a∧H1 a=some (.ins C dx fs)∧Cls K C∧NoAttr K C f∧fs.lookup f=some v∧Q v H1
def sFld (K:PySem.W.Frag) (ta tv:TE) (f:Str):TS:=fun D σ H=>tv σ H fun y H1=>ta σ H1 fun x H2=>∃ a C dx fs,x=.ref a∧H2 a=some (.ins C dx fs)∧Cls K C∧NoAttr K C f∧fs.length < 1000∧
 D.nx σ (upd H2 a (.ins C dx (putF f y fs)))
section
variable {X:Cx} {o e value:Expr} {f:Str} {pos pos' tpos:Pos} {ta tv:TE}
theorem pe_fld (he:PE X e ta) (hb:attributeBase e f X.env (eval e X.env)=eval e X.env):PE X (.Attribute e f pos) (tFld X.K ta f):=by
 intro pins s σ H Q I h
 refine attr_of hb (thn (he pins s σ H _ I h) fun u s1 ⟨x,H1,I1,rx,a,C,dx,fs,v,ex,ea,c,n,l,q⟩=>?_)
 subst ex
 obtain rfl:u=Value.ref a:=rx
 exact getattr_ok I1 ea c n l fun u' s2 I2 ru=>⟨v,H1,I2,ru,q⟩
theorem ps_fld (ha:PE X o ta) (hv:PE X value tv) (hs:swapsWith value (some (.Attribute o f pos')) pos.line X.env=pure false):PS X (.Assign [.Attribute o f pos'] value pos) (sFld X.K ta tv f):=by
 intro pins s σ H D I h
 refine plainObj_wpAny_Assign_Attribute (thn (hv pins s σ H _ I h) fun u s1 ⟨y,H1,I1,ry,q⟩=>thn (ha pins s1 σ H1 _ I1 q) fun ov s2 ⟨x,H2,I2,rx,a,C,dx,fs,ex,ea,c,n,l,q2⟩=>?_) hs
 subst ex
 obtain rfl:ov=Value.ref a:=rx
 exact setattr_ok I2 ea c n l ry fun s3 I3=>⟨σ,_,I3,q2⟩
end
section
variable {X:Cx} {pins:List (Addr × Obj)} {σ:St} {H:Hp} {s:Shared} {A:Around} {E:Value→Shared→Prop} {Q:Value→Shared→Prop} {c:Value} {b:Bool}
end
end L2
namespace L2
open PySem PySem.Spec PyProof.Rows
structure Room (k:Nat) (A:Around):Prop where
 hd:A.handled=none
 dp:A.depth + 3 * k + 5 < recursionLimit
 un:A.units + 16 * k + 200 < cLine
theorem Room.mono {j k:Nat} {A:Around} (r:Room k A) (h:j≤k):Room j A:=⟨r.hd,by have:=r.dp; omega,by have:=r.un; omega⟩
theorem Room.deeper {k:Nat} {A:Around} (r:Room (k + 1) A) (env:Env):Room k (A.deeper env):=
 ⟨r.hd,by have:=r.dp; show A.depth + 1 + 3 * k + 5 < _; omega,by have:=r.un; show A.units + 3 + 16 * k + 200 < _; omega⟩
theorem make_depth {A:Around} {C:Addr} {us:List Value} {kw:List (Str × Value)}:(A.under (.builtin "type.__call__" ⟨.ref C::us,kw⟩)).depth=A.depth + 1:=by
 first | rfl | simp [Around.under,Code.weight,Code.isCreation,Code.isGuard,Code.isCaller,Code.frames,Code.isFrame,guardIds]
theorem make_units {A:Around} {C:Addr} {us:List Value} {kw:List (Str × Value)}:(A.under (.builtin "type.__call__" ⟨.ref C::us,kw⟩)).units=A.units + 1:=by
 first | rfl | simp [Around.under,Code.cUnits,Code.frames,Code.isFrame]
theorem Room.make {k:Nat} {A:Around} (r:Room (k + 1) A) (C:Addr) (us:List Value) (kw:List (Str × Value)):Room k (A.under (.builtin "type.__call__" ⟨.ref C::us,kw⟩)):=
 ⟨r.hd,by have:=r.dp; rw [make_depth]; omega,by have:=r.un; rw [make_units]; omega⟩
theorem Room.depth {k:Nat} {A:Around} (r:Room k A):A.depth < recursionLimit:=by have:=r.dp; omega
theorem Room.units {k:Nat} {A:Around} (r:Room k A):A.units + 64 < cLine:=by have:=r.un; omega
def tNil:TA:=fun _ H Q=>Q [] H
def tCons (ta:TE) (tr:TA):TA:=fun σ H Q=>ta σ H fun x H1=>tr σ H1 fun xs H2=>Q (x::xs) H2
section
variable {X:Cx} {e:Expr} {es:List Expr} {te:TE} {t:TA} {pos:Pos}
theorem pa_nil:PA X [] tNil:=fun _ _ _ _ H Q I h=>Calls.spliced_nil ⟨[],H,I,.nil,h⟩
theorem pa_cons (ha:PE X e te) (hr:PA X es t) (hs:starEach (e::es) X.env=(false,eval e X.env)::starEach es X.env:=by rfl):PA X (e::es) (tCons te t):=by
 intro pos pins s σ H Q I h
 rw [hs]
 show wpAny _ _ (spliced ((false,eval e X.env)::backTo pos (starEach es X.env))) _ _ s
 refine Calls.spliced_cons (thn (ha pins s σ H _ I h) fun u s1 ⟨x,H1,I1,r1,q1⟩=>?_)
 exact thn (hr pos pins s1 σ H1 _ I1 q1) fun us s2 ⟨xs,H2,I2,r2,q2⟩=>⟨x::xs,H2,I2,.cons r1 r2,q2⟩
def tTup (t:TA):TE:=fun σ H Q=>t σ H fun xs H1=>xs.length≤sizeLine∧∀ p,H1 p=none→Q (.ref p) (upd H1 p (.tup xs))
def tLst (t:TA):TE:=fun σ H Q=>t σ H fun xs H1=>xs.length≤sizeLine∧∀ p,H1 p=none→Q (.ref p) (upd H1 p (.lst xs))
theorem pe_tup {x1} (h:PA X es t):PE X (.Tuple es x1 pos) (tTup t):=by
 intro pins s σ H Q I hq
 refine wpAny_Tuple_spliced (thn (h pos pins s σ H _ I hq) fun us s1 ⟨xs,H1,I1,r,z,q⟩=>⟨by rw [← r.length]; exact z,?_⟩)
 have hf:H1 s1.heap.objs.size=none:=I1.hok.fresh (Nat.le_refl _)
 refine ⟨.ref s1.heap.objs.size,upd H1 s1.heap.objs.size (.tup xs),I1.laid (t':=s1.toks) (fun b u e=>Heap.get?_push_of_some _ e) (Nat.le_refl _) ?_,rfl,q _ hf⟩
 exact ⟨z,us,r,⟨_,Heap.get?_push_size _ rfl,rfl,_,rfl⟩⟩
theorem pe_lst (h:PA X es t):PE X (.List es pos) (tLst t):=by
 intro pins s σ H Q I hq
 refine wpAny_List_spliced (thn (h pos pins s σ H _ I hq) fun us s1 ⟨xs,H1,I1,r,z,q⟩=>⟨by rw [← r.length]; exact z,?_⟩)
 have hf:H1 s1.heap.objs.size=none:=I1.hok.fresh (Nat.le_refl _)
 refine ⟨.ref s1.heap.objs.size,upd H1 s1.heap.objs.size (.lst xs),I1.laid (t':=s1.toks) (fun b u e=>Heap.get?_push_of_some _ e) (Nat.le_refl _) ?_,rfl,q _ hf⟩
 exact ⟨z,us,0,r,Heap.get?_push_size _ rfl⟩
end
abbrev Sp:=List V→Hp→VK→XK→Prop
abbrev CXT:=List Env→Hp→Shared→XK→Value→Shared→Prop
structure Env0 (P:Program) (w:World) (K:PySem.W.Frag) (mg:Str→Option Value) (base:Heap) (A:Around) (outer:List Env) (s:Shared) (H:Hp):Prop where
 frames:A.frames=some outer
 mod:Mod K mg base
 bs:∀ b o,base.get? b=some o→s.heap.get? b=some o∧H b=none
 bsz:base.objs.size≤s.heap.objs.size
 funs:s.heap.FunFrames base outer
 frf:∀ b ∈ frs outer,H b=none
 hok:HOk P w H s.heap
 bare:AllBare s.gens
def CE (outer:List Env) (P:Program) (w:World) (H:Hp) (s:Shared) (Q:VK) (u:Value) (s':Shared):Prop:=
 ∃ v H',s'.os=s.os∧AllBare s'.gens∧Un (frs outer) [] H H' s.heap s'.heap∧HOk P w H' s'.heap∧RelV v u∧Q v H'
def CR (CX:CXT) (outer:List Env) (P:Program) (w:World) (H:Hp) (s:Shared) (Q:VK) (E:XK) (r:Result) (s':Shared):Prop:=
 match r with
 | .ok (.ret u)=>CE outer P w H s Q u s'
 | .ok _=>False
 | .error e=>CX outer H s E e s'
structure FnOk (P:Program) (w:World) (K:PySem.W.Frag) (mg:Str→Option Value) (base:Heap) (CX:CXT) (k:Nat) (f:Addr) (fd:FuncData) (ps:List Str) (sp:Sp):Prop where
 len:∀ vs H Q E,sp vs H Q E→vs.length=ps.length
 run:∀ (A:Around) (outer:List Env) (s:Shared) (H:Hp) (args:Args) (us:List Value) (vs:List V) (Q:VK) (E:XK),Room k A→Env0 P w K mg base A outer s H→BindsTo s fd args (ps.zip us)→Vals vs us→sp vs H Q E→
  codeAny (model P w) A (.call (.ref f) args) (CR CX outer P w H s Q E) s
theorem Env0.make {P:Program} {w:World} {K:PySem.W.Frag} {mg:Str→Option Value} {base:Heap} {A:Around} {outer:List Env} {s:Shared} {H:Hp} (e:Env0 P w K mg base A outer s H) (C:Addr) (us:List Value) (kw:List (Str × Value)) :
  Env0 P w K mg base (A.under (.builtin "type.__call__" ⟨.ref C::us,kw⟩)) outer s H:=⟨by first | exact e.frames | (simpa [Around.under,Code.envs,Code.isFrame,pushEnvs] using e.frames),e.mod,e.bs,e.bsz,e.funs,e.frf,e.hok,e.bare⟩
section
variable {X:Cx} {pins:List (Addr × Obj)} {σ:St} {H:Hp} {s s':Shared}
theorem Inv.env0 (I:Inv X pins σ H s):Env0 X.prog X.w X.K X.mg X.base X.A X.stack s H:=
 ⟨I.ok.frames,I.ok.mod,I.bs,Nat.le_trans I.ok.bsz I.sz,I.stack,I.stkFree,I.hok,I.bare⟩
theorem Inv.after {Q:VK} {u:Value} (I:Inv X pins σ H s) (h:CE X.stack X.prog X.w H s Q u s'):EP X pins σ Q u s':=by
 obtain ⟨v,H',os,bare,un,hok,r,q⟩:=h
 obtain ⟨hh,g,d,t,os'⟩:=s'
 obtain rfl:os'=s.os:=os
 exact ⟨v,H',I.call (h':=hh) (g':=g) (d':=d) (t':=t) (ch:=[]) un hok bare (fun b z=>absurd z (by simp)),r,q⟩
end
def tCall (sp:Sp) (dvs:List V) (E:XK) (t:TA):TE:=fun σ H Q=>t σ H fun vs H1=>sp (vs ++ dvs) H1 Q E
def tMeth (C:Addr) (m:Str) (sp:Sp) (dvs:List V) (E:XK) (ta:TE) (t:TA):TE:=fun σ H Q=>ta σ H fun x H1=>∃ a dx fs,x=.ref a∧H1 a=some (.ins C dx fs)∧fs.lookup m=none∧
 t σ H1 fun vs H2=>sp (x::(vs ++ dvs)) H2 Q E
def tMake (C:Addr) (sp:Sp) (dvs:List V) (E:XK) (t:TA):TE:=fun σ H Q=>t σ H fun vs H1=>∀ x dx,H1 x=none→H1 dx=none→dx ≠ x→
 sp (.ref x::(vs ++ dvs)) (upd (upd H1 dx (.own x)) x (.ins C dx [])) (fun v H2=>v=.non∧Q (.ref x) H2) E
def Binds (K:PySem.W.Frag) (fd:FuncData) (ps:List Str) (ds:List Value):Prop:=
 ∀ (s:Shared) (us:List Value),K.In s.heap→(us ++ ds).length=ps.length→BindsTo s fd ⟨us,[]⟩ (ps.zip (us ++ ds))
theorem Binds.all {K:PySem.W.Frag} {fd:FuncData} {ps:List Str} (h:∀ us:List Value,us.length=ps.length→bindArgs fd ⟨us,[]⟩=pure (ps.zip us)):Binds K fd ps []:=fun s us _ hl=>by
 rw [List.append_nil] at hl ⊢
 exact .of_eq (h us hl)
def Passes (CX:CXT) (X:Cx) (E:XK):Prop:=∀ (pins:List (Addr × Obj)) (σ:St) (H:Hp) (s:Shared) (e:Value) (s':Shared),Inv X pins σ H s→CX X.stack H s E e s'→X.xe e s'
section
variable {X:Cx} {CX:CXT} {k:Nat} {f C:Addr} {fd:FuncData} {ps:List Str} {sp:Sp} {dvs:List V} {ds:List Value} {E:XK} {x m:Str} {p pos apos:Pos} {e o:Expr} {es:List Expr} {ta:TE} {t:TA}
theorem run_fn {pins:List (Addr × Obj)} {σ:St} {H:Hp} {s:Shared} {Q:VK} {us:List Value} {vs:List V} (F:FnOk X.prog X.w X.K X.mg X.base CX k f fd ps sp) (hr:Room k X.A) (hb:Binds X.K fd ps ds) (hd:Vals dvs ds) (hx:Passes CX X E)
  (I:Inv X pins σ H s) (r:Vals vs us) (h:sp (vs ++ dvs) H Q E):wpAny (model X.prog X.w) X.A (call (.ref f) us) (EP X pins σ Q) X.xe s:=by
 have r2:Vals (vs ++ dvs) (us ++ ds):=r.append hd
 have hl:(us ++ ds).length=ps.length:=by rw [← r2.length]; exact F.len _ _ _ _ h
 refine wpAny_call (codeAny_mono (F.run X.A X.stack s H ⟨us,[]⟩ (us ++ ds) (vs ++ dvs) Q E hr I.env0 (hb s us I.kIn hl) r2 h) fun r s' hq=>?_)
 cases r with
 |error e=>exact hx pins σ H s e s' I hq
 |ok fl=>
  cases fl with
  |ret u=>exact I.after hq
  |next=>exact False.elim hq
  |brk=>exact False.elim hq
  |cont=>exact False.elim hq
theorem pe_call (F:FnOk X.prog X.w X.K X.mg X.base CX k f fd ps sp) (hr:Room k X.A) (hg:Gl X x) (hm:X.mg x=some (.ref f)) (hk:PySem.W.keepIn X.K (.ref f)=true) (hb:Binds X.K fd ps ds) (hd:Vals dvs ds) (hx:Passes CX X E)
  (ha:PA X (e::es) t) (hdb:(x == ("__debug__":Str))=false:=by decide) (he:starEach (e::es) X.env=(false,eval e X.env)::starEach es X.env:=by rfl) (hpl:(backTo pos (starEach es X.env)).any (·.1)=false:=by rfl) :
  PE X (.Call (.Name x p) (e::es) [] pos) (tCall sp dvs E t):=by
 intro pins s σ H Q I h
 refine wpAny_Call_Name_kw (ld_glob I hg hm ?_ hdb)
 refine PySem.W.callWith_K (h₀:=X.base) I.ok.mod.kin hk (thn (ha pos pins s σ H _ I h) fun us s1 ⟨vs,H1,I1,r,q⟩=>⟨I1.kIn,?_⟩) he hpl
 exact run_fn F hr hb hd hx I1 r q
theorem pe_meth {pl:Sem Bool} (he:PE X o ta) (c:Cls X.K C) (hm:Meth X.K C m f) (F:FnOk X.prog X.w X.K X.mg X.base CX k f fd ps sp) (hr:Room k X.A) (hb:Binds X.K fd ps ds) (hd:Vals dvs ds) (hx:Passes CX X E) (ha:PA X (e::es) t)
  (hst:starEach (e::es) X.env=(false,eval e X.env)::starEach es X.env:=by rfl) (hpl:(backTo pos (starEach es X.env)).any (·.1)=false:=by rfl)
  (ht:eval (.Call (.Attribute o m apos) (e::es) [] pos) X.env=(do
   let ov ← eval o X.env
   standAt apos.atName
   let (f,first) ← holding [ov] (getMethod ov m pl)
   callWith pos f first (backTo pos (starEach (e::es) X.env)) (backToKw pos (keywordEach [] X.env))):=by rfl) :
  PE X (.Call (.Attribute o m apos) (e::es) [] pos) (tMeth C m sp dvs E ta t):=by
 intro pins s σ H Q I h
 refine PySem.W.methodCall_KW (pl:=pl) (thn (he pins s σ H _ I h) fun u s1 ⟨x,H1,I1,rx,a,dx,fs,ex,ea,l,q⟩=>?_) ht
 subst ex
 obtain rfl:u=Value.ref a:=rx
 refine getmeth_ok I1 ea c hm l ?_
 refine PySem.W.callWith_K (first:=[.ref a]) (h₀:=X.base) I.ok.mod.kin hm.kp (thn (ha pos pins s1 σ H1 _ I1 q) fun us s2 ⟨vs,H2,I2,r,q2⟩=>⟨I2.kIn,?_⟩) hst hpl
 exact run_fn (us:=.ref a::us) (vs:=.ref a::vs) F hr hb hd hx I2 (.cons rfl r) q2
theorem pe_meth0 {pl:Sem Bool} (he:PE X o ta) (c:Cls X.K C) (hm:Meth X.K C m f) (F:FnOk X.prog X.w X.K X.mg X.base CX k f fd ps sp) (hr:Room k X.A) (hb:Binds X.K fd ps ds) (hd:Vals dvs ds) (hx:Passes CX X E)
  (ht:eval (.Call (.Attribute o m apos) [] [] pos) X.env=(do
   let ov ← eval o X.env
   standAt apos.atName
   let (f,first) ← holding [ov] (getMethod ov m pl)
   callWith pos f first (backTo pos (starEach [] X.env)) (backToKw pos (keywordEach [] X.env))):=by rfl) :
  PE X (.Call (.Attribute o m apos) [] [] pos) (tMeth C m sp dvs E ta tNil):=by
 intro pins s σ H Q I h
 refine PySem.W.methodCall_KW (pl:=pl) (thn (he pins s σ H _ I h) fun u s1 ⟨x,H1,I1,rx,a,dx,fs,ex,ea,l,q⟩=>?_) ht
 subst ex
 obtain rfl:u=Value.ref a:=rx
 refine getmeth_ok I1 ea c hm l ?_
 exact PySem.W.callWith_K0 (first:=[.ref a]) I1.kIn hm.kp (run_fn (us:=[.ref a]) (vs:=[.ref a]) F hr hb hd hx I1 (.cons rfl .nil) q)
structure Mk (K:PySem.W.Frag) (C f:Addr):Prop where
 makes:PySem.W.makesIn K C=true
 init:PySem.W.findIn K (.ref C) "__init__"=some (some (.ref f))
 fn:PySem.W.isFn K (.ref f)=true
 kp:PySem.W.keepIn K (.ref C)=true
theorem run_make {pins:List (Addr × Obj)} {σ:St} {H:Hp} {s:Shared} {Q:VK} {us:List Value} {vs:List V} (M:Mk X.K C f) (F:FnOk X.prog X.w X.K X.mg X.base CX k f fd ps sp) (hr:Room (k + 1) X.A) (hb:Binds X.K fd ps ds) (hd:Vals dvs ds)
  (hx:Passes CX X E) (I:Inv X pins σ H s) (r:Vals vs us)
  (h:∀ x dx,H x=none→H dx=none→dx ≠ x→sp (.ref x::(vs ++ dvs)) (upd (upd H dx (.own x)) x (.ins C dx [])) (fun v H2=>v=.non∧Q (.ref x) H2) E) :
  wpAny (model X.prog X.w) X.A (call (.ref C) us) (EP X pins σ Q) X.xe s:=by
 have hq:=h (s.heap.objs.size + 1) s.heap.objs.size (I.hok.fresh (Nat.le_succ _)) (I.hok.fresh (Nat.le_refl _)) (Nat.ne_of_lt (Nat.lt_succ_self _))
 have I2:=Inv.made (C:=C) I
 have r2:Vals (V.ref (s.heap.objs.size + 1)::(vs ++ dvs)) (Value.ref (s.heap.objs.size + 1)::(us ++ ds)):=.cons rfl (r.append hd)
 have hl:(Value.ref (s.heap.objs.size + 1)::us ++ ds).length=ps.length:=by
  have e:=r2.length
  rw [F.len _ _ _ _ hq] at e
  exact e.symm
 refine wpAny_call (make_map (f:=f) I.kIn M.makes M.init (beq_iff_eq.mp M.fn) (codeAny_mono (F.run _ X.stack _ _ ⟨Value.ref (s.heap.objs.size + 1)::us,[]⟩ (Value.ref (s.heap.objs.size + 1)::(us ++ ds)) _ _ E (hr.make C us [])
  (I2.env0.make C us []) (hb _ (Value.ref (s.heap.objs.size + 1)::us) I2.kIn hl) r2 hq) fun r s' hq'=>?_))
 cases r with
 |error e=>exact hx pins σ _ _ e s' I2 hq'
 |ok fl=>
  cases fl with
  |ret u=>
   obtain ⟨v,H',I3,rv,ev,q3⟩:=I2.after hq'
   subst ev
   exact ⟨rv,⟨V.ref (s.heap.objs.size + 1),H',I3,rfl,q3⟩⟩
  |next=>exact False.elim hq'
  |brk=>exact False.elim hq'
  |cont=>exact False.elim hq'
theorem pe_make (M:Mk X.K C f) (F:FnOk X.prog X.w X.K X.mg X.base CX k f fd ps sp) (hr:Room (k + 1) X.A) (hg:Gl X x) (hm:X.mg x=some (.ref C)) (hb:Binds X.K fd ps ds) (hd:Vals dvs ds) (hx:Passes CX X E)
  (ha:PA X (e::es) t) (hdb:(x == ("__debug__":Str))=false:=by decide) (he:starEach (e::es) X.env=(false,eval e X.env)::starEach es X.env:=by rfl) (hpl:(backTo pos (starEach es X.env)).any (·.1)=false:=by rfl) :
  PE X (.Call (.Name x p) (e::es) [] pos) (tMake C sp dvs E t):=by
 intro pins s σ H Q I h
 refine wpAny_Call_Name_kw (ld_glob I hg hm ?_ hdb)
 refine PySem.W.callWith_K (h₀:=X.base) I.ok.mod.kin M.kp (thn (ha pos pins s σ H _ I h) fun us s1 ⟨vs,H1,I1,r,q⟩=>⟨I1.kIn,?_⟩) he hpl
 exact run_make M F hr hb hd hx I1 r q
theorem pe_make0 (M:Mk X.K C f) (F:FnOk X.prog X.w X.K X.mg X.base CX k f fd ps sp) (hr:Room (k + 1) X.A) (hg:Gl X x) (hm:X.mg x=some (.ref C)) (hb:Binds X.K fd ps ds) (hd:Vals dvs ds) (hx:Passes CX X E)
  (hdb:(x == ("__debug__":Str))=false:=by decide):PE X (.Call (.Name x p) [] [] pos) (tMake C sp dvs E tNil):=by
 intro pins s σ H Q I h
 refine wpAny_Call_Name_kw (ld_glob I hg hm ?_ hdb)
 exact PySem.W.callWith_K0 I.kIn M.kp (run_make (us:=[]) M F hr hb hd hx I .nil h)
end
section
variable {X:Cx} {CX:CXT} {k:Nat} {f C:Addr} {fd:FuncData} {ps ks:List Str} {sp:Sp} {E:XK} {x m:Str} {p pos apos kpos:Pos} {e o:Expr} {es:List Expr} {kws:List Keyword} {te ta:TE} {t tk:TA} {nm:Option Str}
variable {g:List Value→List Value→List Value} {gV:List V→List V→List V}
end
structure FnScope (N P:List Str) (sc:Scope):Prop where
 kind:sc.kind=.function
 co:sc.isCoroutine=false
 gen:sc.isGenerator=false
 nd:N.Nodup
 pre:N.take P.length=P
 par:∀ x ∈ P,sc.names.lookup x=some .local∨sc.names.lookup x=some .cell
 nofree:∀ y ∈ sc.names,y.2 ≠ .free
theorem bindL_out {kindOf:Str→Option NameKind} {x:Str}:∀ {binds:List (Str × Value)} {m:Str→Option Value},(∀ v,(x,v) ∉ binds)→bindL kindOf binds m x=m x
 | [],_,_=>rfl
 |(n,v)::r,m,h=>by
  unfold bindL
  rw [bindL_out fun w hw=>h w (List.mem_cons_of_mem _ hw)]
  split
  ·have:x ≠ n:=by rintro rfl; exact h v List.mem_cons_self
   simp [this]
  ·rfl
theorem bindC_out {kindOf:Str→Option NameKind} {x:Str}:∀ {binds:List (Str × Value)} {m:Str→Option Value},(∀ v,(x,v) ∉ binds)→bindC kindOf binds m x=m x
 | [],_,_=>rfl
 |(n,v)::r,m,h=>by
  unfold bindC
  rw [bindC_out fun w hw=>h w (List.mem_cons_of_mem _ hw)]
  split
  ·rfl
  ·have:x ≠ n:=by rintro rfl; exact h v List.mem_cons_self
   simp [this]
theorem bindL_get {kindOf:Str→Option NameKind} {x:Str} {v:Value}:∀ {P:List Str} {vs:List Value} {i:Nat} {m:Str→Option Value},P.Nodup→P[i]?=some x→vs[i]?=some v→kindOf x=some .local→
  bindL kindOf (P.zip vs) m x=some v
 | [],_,_,_,_,h,_,_=>by simp at h
 |_::_,[],_,_,_,_,h,_=>by simp at h
 |p::P,w::vs,0,m,nd,h1,h2,hk=>by
  simp at h1 h2; subst h1; subst h2
  show bindL kindOf ((p,w)::P.zip vs) m p=_
  unfold bindL
  rw [bindL_out fun v hv=>(List.nodup_cons.mp nd).1 (List.of_mem_zip hv).1,if_pos hk]
  simp
 |p::P,w::vs,i + 1,m,nd,h1,h2,hk=>by
  show bindL kindOf ((p,w)::P.zip vs) m x=_
  unfold bindL
  exact bindL_get (i:=i) (List.nodup_cons.mp nd).2 (by simpa using h1) (by simpa using h2) hk
theorem bindC_get {kindOf:Str→Option NameKind} {x:Str} {v:Value}:∀ {P:List Str} {vs:List Value} {i:Nat} {m:Str→Option Value},P.Nodup→P[i]?=some x→vs[i]?=some v→kindOf x ≠ some .local→
  bindC kindOf (P.zip vs) m x=some v
 | [],_,_,_,_,h,_,_=>by simp at h
 |_::_,[],_,_,_,_,h,_=>by simp at h
 |p::P,w::vs,0,m,nd,h1,h2,hk=>by
  simp at h1 h2; subst h1; subst h2
  show bindC kindOf ((p,w)::P.zip vs) m p=_
  unfold bindC
  rw [bindC_out fun v hv=>(List.nodup_cons.mp nd).1 (List.of_mem_zip hv).1,if_neg hk]
  simp
 |p::P,w::vs,i + 1,m,nd,h1,h2,hk=>by
  show bindC kindOf ((p,w)::P.zip vs) m x=_
  unfold bindC
  exact bindC_get (i:=i) (List.nodup_cons.mp nd).2 (by simpa using h1) (by simpa using h2) hk
def start (N:List Str) (vs:List V):St:=vs.map some ++ List.replicate (N.length - vs.length) none
def cxOf (CX:CXT) (P:Program) (w:World) (K:PySem.W.Frag) (mg:Str→Option Value) (base:Heap) (N:List Str) (qual:Str) (scope:Scope) (f:Addr) (cd:Value) (A:Around) (outer:List Env) (s:Shared) (H:Hp) (E:XK):Cx where
 prog:=P
 w:=w
 K:=K
 mg:=mg
 base:=base
 A:=A.deeper (envOfC qual scope s.heap.objs.size f cd)
 N:=N
 s_0:=s
 H_0:=H
 env:=envOfC qual scope s.heap.objs.size f cd
 outer:=outer
 stack:=envOfC qual scope s.heap.objs.size f cd::outer
 ex:=[]
 calm:=true
 fn:=fun _=>true
 pn:=[]
 xe:=fun e s'=>wpAny (model P w) (A.deeper (envOfC qual scope s.heap.objs.size f cd)) (leaving (envOfC qual scope s.heap.objs.size f cd) e) (fun _ s''=>CX outer H s E e s'') (fun e' s''=>CX outer H s E e' s'') s'
theorem cell_has {sc:Scope} {n:Nat} {x:Str} (h:sc.names.lookup x=some .cell):∃ c,(cellsFrom n sc.names []).lookup x=some c:=by
 have q:=PySem.W.cellsFrom_some sc.names n [] (.inl h)
 exact Option.isSome_iff_exists.mp q
theorem inv_start {CX:CXT} {P:Program} {w:World} {K:PySem.W.Frag} {mg:Str→Option Value} {base:Heap} {N ps:List Str} {qual:Str} {scope:Scope} {f:Addr} {cd:Value} {A:Around} {outer:List Env} {s s1:Shared} {H:Hp} {E:XK} {us:List Value} {vs:List V}
  (S:FnScope N ps scope) (hd:A.handled=none) (e0:Env0 P w K mg base A outer s H) (hl:vs.length=ps.length) (r:Vals vs us)
  (x:InCallC s s.heap.objs.size (bindL (envOfC qual scope s.heap.objs.size f cd).kindOf (ps.zip us) fun _=>none) (cellsFrom (s.heap.objs.size + 1) scope.names []) (bindC (envOfC qual scope s.heap.objs.size f cd).kindOf (ps.zip us) fun _=>none) s1) :
  Inv (cxOf CX P w K mg base N qual scope f cd A outer s H E) [] (start N vs) H s1:=by
 have hpl:ps.length≤N.length:=by have:=congrArg List.length S.pre; rw [List.length_take] at this; omega
 obtain ⟨h1,tk,rfl,hk⟩:=x.done
 have noA:∀ b:Addr,b ∉ (cxOf CX P w K mg base N qual scope f cd A outer s H E).ex:=fun b z=>absurd (show b ∈ ([]:List Addr) from z) (by simp)
 refine ⟨⟨e0.mod,S.kind,rfl,rfl,Nat.le_refl _,fun y z c h1 h2=>?_,fun y hy=>?_,fun y c _ h=>?_,fun _=>hd,Around.frames_deeper e0.frames,.inr ⟨rfl,rfl⟩,fun b z=>absurd z (noA b),e0.bs,e0.bsz,fun b _ _=>noA b,fun b z=>absurd z (noA b),e0.funs,e0.frf⟩,
  rfl,e0.bare,Un.kept hk,⟨_,x.toInCall.ns,fun i y v h1 h2 h3=>?_⟩,fun y c h=>⟨_,x.cell y c h⟩,e0.hok.fresh (Nat.le_refl _),fun y c h=>?_,fun p hp=>absurd (show p ∈ ([]:List (Addr × Obj)) from hp) (by simp),e0.hok.kept hk,?_⟩
 ·exact name_of_addr x.apart (PySem.mem_of_lookup h1) (PySem.mem_of_lookup h2)
 ·have hy:scope.names.lookup y=some .cell∨scope.names.lookup y=some .free:=hy
  rcases hy with hy | hy
  ·exact cell_has hy
  ·exact absurd rfl (S.nofree _ (PySem.mem_of_lookup hy))
 ·exact Nat.le_of_lt (x.above y c (PySem.mem_of_lookup h))
 ·have hi:i < vs.length:=by
   unfold start at h2
   by_cases hi:i < vs.length
   ·exact hi
   ·rw [List.getElem?_append_right (by simpa using hi)] at h2
    rw [List.getElem?_replicate] at h2
    split at h2 <;> cases h2
  have ha:vs[i]?=some v:=by
   unfold start at h2
   rw [List.getElem?_append_left (by simpa using hi),List.getElem?_map] at h2
   cases e:vs[i]? with
   |none=>rw [e] at h2; cases h2
   |some a=>rw [e] at h2; cases h2; rfl
  obtain ⟨u,hu,rv⟩:=r.get ha
  have hp:ps[i]?=some y:=by
   rw [← S.pre,List.getElem?_take_of_lt (by omega)]; exact h1
  have ndP:ps.Nodup:=by rw [← S.pre]; exact S.nd.sublist (List.take_sublist _ _)
  refine ⟨u,rv,?_⟩
  rcases S.par y (List.mem_of_getElem? hp) with k | k
  ·exact .inl ⟨k,bindL_get ndP hp hu k⟩
  ·obtain ⟨c,e⟩:=cell_has (n:=s.heap.objs.size + 1) k
   refine .inr ⟨.inl k,c,e,?_⟩
   have q:=x.cell y c e
   rw [bindC_get ndP hp hu (by show scope.names.lookup y ≠ _; rw [k]; decide)] at q
   exact q
 ·exact e0.hok.fresh (Nat.le_of_lt (x.above y c (PySem.mem_of_lookup h)))
 ·unfold start
  show _=N.length
  rw [List.length_append,List.length_map,List.length_replicate]
  omega
theorem fn_of {CX:CXT} {P:Program} {w:World} {K:PySem.W.Frag} {mg:Str→Option Value} {base:Heap} {k:Nat} {f:Addr} {name qual:Str} {params:Arguments} {body:List Stmt} {scope:Scope} {dV kV doc pm cdv ct oc:Value} {an od:Option Addr}
  {osl:Array (Option Value)} {N ps:List Str} {sp:Sp} (lk:K.lookup f=some ⟨oc,od,.func (PySem.W.fnOf name qual params body scope dV kV doc pm an cdv ct),osl⟩) (hcd:PySem.W.codeIn K cdv qual=true) (S:FnScope N ps scope)
  (len:∀ vs H Q E,sp vs H Q E→vs.length=ps.length)
  (hbody:∀ (A:Around) (outer:List Env) (s:Shared) (H:Hp) (vs:List V) (Q:VK) (E:XK),Room k (A.deeper (envOfC qual scope s.heap.objs.size f cdv))→sp vs H Q E→
   ∃ t,PSs (cxOf CX P w K mg base N qual scope f cdv A outer s H E) body t∧t { nx:=fun _ H'=>Q .non H',rt:=Q } (start N vs) H) :
  FnOk P w K mg base CX (k + 1) f (PySem.W.fnOf name qual params body scope dV kV doc pm an cdv ct) ps sp:=by
 refine ⟨len,fun A outer s H args us vs Q E hr e0 hb r hsp=>?_⟩
 have hl:=len _ _ _ _ hsp
 have KX:K.In s.heap:=e0.mod.kin.keeps fun b o e=>(e0.bs b o e).1
 have lim:s.heap.NoLimit:=e0.mod.nolimit.keeps fun b o e=>(e0.bs b o e).1
 have hkind:∀ y ∈ ps.zip us,scope.names.lookup y.1=some .local∨(scope.names.lookup y.1=some .cell∧((cellsFrom (s.heap.objs.size + 1) scope.names []).lookup y.1).isSome=true):=fun ⟨n,v⟩ hy=>by
  rcases S.par n (List.of_mem_zip hy).1 with q | q
  ·exact .inl q
  ·exact .inr ⟨q,PySem.W.cellsFrom_some _ _ _ (.inl q)⟩
 refine codeAny_call_function hr.depth (KX _ _ lk) rfl S.co S.gen rfl (PySem.W.codeRec_of KX hcd) (hb _ _ _ _ ?_)
 refine wpAny_newFunctionEnv_cells S.kind hkind fun env he s1 x=>?_
 subst he
 refine ⟨lim.keeps x.toInCall.keep,codeAny_func ?_⟩
 obtain ⟨t,ht,hq⟩:=hbody A outer s H vs Q E (hr.deeper _) hsp
 have I:Inv (cxOf CX P w K mg base N qual scope f cdv A outer s H E) [] (start N vs) H s1:=inv_start S hr.hd e0 hl r x
 refine wpAny_mono (ht [] s1 (start N vs) H _ I hq) (fun fl s' hs=>?_) fun e s' hs=>hs
 have fin:∀ {σ':St} {H':Hp} {v:V} {u:Value},Inv (cxOf CX P w K mg base N qual scope f cdv A outer s H E) [] σ' H' s'→RelV v u→Q v H'→CE outer P w H s Q u s':=
  fun {σ' H' v u} J rv q=>⟨v,H',J.os,J.bare,J.base,J.hok,rv,q⟩
 cases fl with
 |ret u=>
  obtain ⟨v,σ',H',J,rv,q⟩:=hs
  exact fin J rv q
 |next=>
  obtain ⟨σ',H',J,q⟩:=hs
  exact fin (v:=V.non) (u:=Value.none) J rfl q
 |brk=>
  obtain ⟨_,_,_,q⟩:=hs
  exact False.elim q
 |cont=>
  obtain ⟨_,_,_,q⟩:=hs
  exact False.elim q
end L2
namespace L2
open PySem PySem.Spec PyProof.Rows
section
variable {X:Cx} {x:Str} {p pos:Pos} {e:Expr} {es:List Expr} {t:TA} {id T:String} {r:List V→Hp→VK→Prop}
def tCB (r:List V→Hp→VK→Prop) (t:TA):TE:=fun σ H Q=>t σ H fun vs H1=>r vs H1 Q
theorem pe_callB (hc:CallR X (.builtin id) r) (hg:Gl X x) (hm:X.mg x=none) (hv:bootBuiltins x=some (.builtin id)) (ha:PA X (e::es) t) (hn:x ≠ "__name__":=by decide) (hdb:(x == ("__debug__":Str))=false:=by decide)
  (he:starEach (e::es) X.env=(false,eval e X.env)::starEach es X.env:=by rfl) (hpl:(backTo pos (starEach es X.env)).any (·.1)=false:=by rfl):PE X (.Call (.Name x p) (e::es) [] pos) (tCB r t):=by
 intro pins s σ H Q I h
 refine wpAny_Call_Name_kw (ld_blt I hg hm hv ?_ hn hdb)
 exact PyProof.Rows.callWith_builtin1 (thn (ha pos pins s σ H _ I h) fun us s1 ⟨vs,H1,I1,r1,q1⟩=>hc pins s1 σ H1 vs us Q I1 r1 q1) he hpl
theorem pe_callTy (hc:CallR X (.type T) r) (hg:Gl X x) (hm:X.mg x=none) (hv:bootBuiltins x=some (.type T)) (ha:PA X (e::es) t) (hn:x ≠ "__name__":=by decide) (hdb:(x == ("__debug__":Str))=false:=by decide)
  (he:starEach (e::es) X.env=(false,eval e X.env)::starEach es X.env:=by rfl) (hpl:(backTo pos (starEach es X.env)).any (·.1)=false:=by rfl):PE X (.Call (.Name x p) (e::es) [] pos) (tCB r t):=by
 intro pins s σ H Q I h
 refine wpAny_Call_Name_kw (ld_blt I hg hm hv ?_ hn hdb)
 exact PyProof.Rows.callWith_type1 (thn (ha pos pins s σ H _ I h) fun us s1 ⟨vs,H1,I1,r1,q1⟩=>hc pins s1 σ H1 vs us Q I1 r1 q1) he hpl
end
end L2
namespace HT
open PySem PyProof.Rows
section
open PySem.SeqAt
open PySem.AutoSeq1 (wpAny_loadPart')
open PySem.MeetsSeq PySem.MeetsSeq2 PySem.MeetsSeq3
end
section
variable {prog:Program} {w:World} {A:Around} {E:Value→Shared→Prop} {s:Shared}
def sIx (n d:Nat):Option Int→Nat
 |none=>d
 |some v=>if v < 0 then (v + (n:Int)).toNat else min v.toNat n
theorem sIx_nat (n d k:Nat):sIx n d (some (k:Int))=min k n:=by
 show (if (k:Int) < 0 then ((k:Int) + (n:Int)).toNat else min (k:Int).toNat n)=min k n
 rw [if_neg (by omega),Int.toNat_natCast]
end
end HT
namespace L2
open PySem PySem.Spec PyProof.Rows
abbrev TO:=St→Hp→(Option Int→Hp→Prop)→Prop
def PO (X:Cx) (e:Option Expr) (t:TO):Prop:=
 ∀ (pins:List (Addr × Obj)) (s:Shared) (σ:St) (H:Hp) (Q:Option Int→Hp→Prop),Inv X pins σ H s→t σ H Q→
  wpAny (model X.prog X.w) X.A (evalPart e X.env) (fun u s'=>∃ o H',Inv X pins σ H' s'∧IsPart u o∧Q o H') X.xe s
def tNoPart:TO:=fun _ H Q=>Q none H
def tPart (t:TE):TO:=fun σ H Q=>t σ H fun x H1=>∃ i,x=.int i∧Q (some i) H1
section
variable {X:Cx} {e:Expr} {te:TE} {lo hi:Option Expr} {tl th:TO} {pos p2:Pos}
theorem po_none:PO X none tNoPart:=by
 intro pins s σ H Q I h
 rw [evalPart_none]
 exact wpAny_pure ⟨none,H,I,.none,h⟩
theorem po_some (h:PE X e te):PO X (some e) (tPart te):=by
 intro pins s σ H Q I hw
 rw [evalPart_some]
 refine thn (h pins s σ H _ I hw) fun u s1 ⟨x,H1,I1,r1,q1⟩=>?_
 obtain ⟨i,rfl,q⟩:=q1
 obtain ⟨t,rfl⟩:=r1
 exact ⟨some i,H1,I1,.int i t,q⟩
def SlR (X:Cx) (r:V→Option Int→Option Int→Hp→VK→Prop):Prop:=
 ∀ (pins:List (Addr × Obj)) (s:Shared) (σ:St) (H:Hp) (x:V) (v vl vu:Value) (lo hi:Option Int) (sl:Addr) (Q:VK),Inv X pins σ H s→RelV x v→s.heap.IsSliceOf sl vl vu .none→IsPart vl lo→IsPart vu hi→r x lo hi H Q→
  ∃ T id,typeLookup (.type T) "__getitem__"=pure (some (.builtin id))∧s.TypeIs v T∧wpAny (model X.prog X.w) X.A (getItem v (.ref sl)) (EP X pins σ Q) X.xe s
def tSl (r:V→Option Int→Option Int→Hp→VK→Prop) (te:TE) (tl th:TO):TE:=fun σ H Q=>te σ H fun x H1=>tl σ H1 fun l H2=>th σ H2 fun u H3=>r x l u H3 Q
theorem pe_slice {r:V→Option Int→Option Int→Hp→VK→Prop} (hr:SlR X r) (he:PE X e te) (hl:PO X lo tl) (hu:PO X hi th):PE X (.Subscript e (.Slice lo hi none p2) pos) (tSl r te tl th):=by
 intro pins s σ H Q I h
 refine Subscript_ (thn (he pins s σ H _ I h) fun v s1 ⟨x,H1,I1,r1,q1⟩=>?_)
 refine wpAny_Slice (thn (hl pins s1 σ H1 _ I1 q1) fun vl s2 ⟨l,H2,I2,pl,q2⟩=>thn (hu pins s2 σ H2 _ I2 q2) fun vu s3 ⟨u,H3,I3,pu,q3⟩=>?_)
 rw [evalPart_none]
 refine wpAny_pure ?_
 have I4:Inv X pins σ H3 { s3 with heap:=s3.heap.push { cls:=.type "slice",data:=.fields #[vl,vu,.none] } }:=I3.kept (t':=s3.toks) fun b ob q=>Heap.get?_push_of_some _ q
 obtain ⟨T,id,hT,ht,hg⟩:=hr pins { s3 with heap:=s3.heap.push { cls:=.type "slice",data:=.fields #[vl,vu,.none] } } σ H3 x v vl vu l u s3.heap.objs.size Q I4 r1 (Heap.IsSliceOf.new ..) pl pu q3
 show wpAny (model X.prog X.w) X.A (subscriptTail e (.Slice lo hi none p2) v (.ref s3.heap.objs.size)) (EP X pins σ Q) X.xe { s3 with heap:=s3.heap.push { cls:=.type "slice",data:=.fields #[vl,vu,.none] } }
 exact tail_any (ops:=[.ref s3.heap.objs.size,v]) ht hT hg (by with_unfolding_all rfl)
def cutV (xs:List V) (lo hi:Option Int):List V:=(xs.drop (HT.sIx xs.length 0 lo)).take (HT.sIx xs.length xs.length hi - HT.sIx xs.length 0 lo)
theorem cutV_length (xs:List V) (lo hi:Option Int):(cutV xs lo hi).length≤xs.length:=by
 unfold cutV
 rw [List.length_take,List.length_drop]
 omega
end
end L2
namespace L2
open PySem PySem.Spec PyProof.Rows
def ixN (n:Nat) (i:Int):Option Nat:=if 0≤i then (if i < n then some i.toNat else none) else if -(n:Int)≤i then some (i + n).toNat else none
def atI {α:Type} (xs:List α) (i:Int):Option α:=(ixN xs.length i).bind fun j=>xs[j]?
theorem ixN_seq {n:Nat} {i:Int} {j:Nat} (h:ixN n i=some j):seqIndex? i n=some j∧j < n∧-(n:Int)≤i∧i < n:=by
 unfold ixN at h
 by_cases h0:0≤i
 ·rw [if_pos h0] at h
  by_cases h1:i < n
  ·rw [if_pos h1] at h
   have e:i.toNat=j:=Option.some.inj h
   exact ⟨by rw [seqIndex_of h0 h1,e],by omega,by omega,h1⟩
  ·rw [if_neg h1] at h; cases h
 ·rw [if_neg h0] at h
  by_cases h1:-(n:Int)≤i
  ·rw [if_pos h1] at h
   have e:(i + n).toNat=j:=Option.some.inj h
   exact ⟨by rw [seqIndex_neg (by omega) h1,e],by omega,h1,by omega⟩
  ·rw [if_neg h1] at h; cases h
theorem atI_get {α:Type} {xs:List α} {i:Int} {v:α} (h:atI xs i=some v):∃ j,seqIndex? i xs.length=some j∧xs[j]?=some v∧j < xs.length∧-(xs.length:Int)≤i∧i < xs.length:=by
 unfold atI at h
 cases e:ixN xs.length i with
 |none=>rw [e] at h; cases h
 |some j=>
  rw [e] at h
  obtain ⟨h1,h2,h3,h4⟩:=ixN_seq e
  exact ⟨j,h1,h,h2,h3,h4⟩
theorem atI_nat {α:Type} {xs:List α} {j:Nat} {v:α} (h:xs[j]?=some v):atI xs (j:Int)=some v:=by
 have hj:j < xs.length:=(List.getElem?_eq_some_iff.mp h).1
 have e:ixN xs.length (j:Int)=some j:=by
  unfold ixN
  rw [if_pos (by omega),if_pos (by omega)]; simp
 unfold atI; rw [e]; exact h
def PlainIx (b:Expr):Prop:=∀ o i,subscripted b false o i=operate [o,i] (getItem o i)
def IxR (X:Cx) (r:R2):Prop:=
 ∀ (value slice:Expr) (pins:List (Addr × Obj)) (s:Shared) (σ:St) (H:Hp) (x y:V) (v u:Value) (Q:VK),Inv X pins σ H s→RelV x v→RelV y u→r x y H Q→
  subscripted slice false v u=operate [v,u] (getItem v u)→wpAny (model X.prog X.w) X.A (subscriptTail value slice v u) (EP X pins σ Q) X.xe s
def MtR (X:Cx) (id:String) (r:V→List V→Hp→VK→Prop):Prop:=
 ∀ (pins:List (Addr × Obj)) (s:Shared) (σ:St) (H:Hp) (x:V) (xs:List V) (v:Value) (us:List Value) (Q:VK),Inv X pins σ H s→RelV x v→Vals xs us→r x xs H Q→
  wpAny (model X.prog X.w) X.A (call (.builtin id) (v::us)) (EP X pins σ Q) X.xe s
section
variable {X:Cx} {a b:Expr} {ta tb:TE} {pos:Pos}
theorem pe_ix {r:R2} (hr:IxR X r) (ha:PE X a ta) (hb:PE X b tb) (hs:PlainIx b):PE X (.Subscript a b pos) (tOp r ta tb):=by
 intro pins s σ H Q I h
 exact Subscript_ (binT ha hb I h fun v u s2 x y H2 I2 rx ry q=>hr a b pins s2 σ H2 x y v u Q I2 rx ry q (hs _ _))
def rIxL (K:PySem.W.Frag):R2:=fun x y H Q=>∃ p xs i v,x=.ref p∧y=.int i∧SqL K H p xs∧atI xs i=some v∧Q v H
def rIxT (K:PySem.W.Frag):R2:=fun x y H Q=>∃ p xs i v,x=.ref p∧y=.int i∧SqT K H p xs∧atI xs i=some v∧Q v H
theorem ix_list:IxR X (rIxL X.K):=by
 intro value slice pins s σ H x y v u Q I rx ry h hs
 obtain ⟨p,xs,i,z,rfl,rfl,hq,he,q⟩:=h
 cases rx
 obtain ⟨t,rfl⟩:=ry
 obtain ⟨its,r,pl,hz⟩:=I.list hq
 obtain ⟨j,h1,h2,h3,h4,h5⟩:=atI_get he
 obtain ⟨w,ew,rw'⟩:=r.get h2
 have hl:=r.length
 have hn:=line63
 have fin:EP X pins σ Q w s:=⟨z,H,I,rw',q⟩
 by_cases h0:0≤i
 ·have hj:i.toNat=j:=by
   rw [seqIndex_of h0 h5] at h1
   exact Option.some.inj h1
  exact item_listR pl.isList h0 (by omega) (by rw [hj]; simpa using ew) fin hs
 ·have hj:(i + (its.toArray.size:Int)).toNat=j:=by
   rw [seqIndex_neg (by omega) h4] at h1
   rw [List.size_toArray,← hl]
   exact Option.some.inj h1
  exact subscriptTail_builtinR (x:=w) pl.isList.typeIs slot_list_getitem.lookup
   (wpAny_getItem_list_neg (Q:=fun r s'=>r=w∧EP X pins σ Q r s') pl.isList (by omega) (by rw [List.size_toArray] <;> omega) (by omega) (by rw [hj]; simpa using ew) ⟨rfl,fin⟩) hs
theorem ix_tup:IxR X (rIxT X.K):=by
 intro value slice pins s σ H x y v u Q I rx ry h hs
 obtain ⟨p,xs,i,z,rfl,rfl,hq,he,q⟩:=h
 cases rx
 obtain ⟨t,rfl⟩:=ry
 obtain ⟨its,r,pl,hz⟩:=I.tuple hq
 obtain ⟨j,h1,h2,h3,h4,h5⟩:=atI_get he
 obtain ⟨w,ew,rw'⟩:=r.get h2
 have hl:=r.length
 have hn:=line63
 have fin:EP X pins σ Q w s:=⟨z,H,I,rw',q⟩
 exact subscriptTail_builtinR (x:=w) pl.typeIs slot_tuple_getitem.lookup
  (getItem_tuple (j:=j) (Q:=fun r s'=>r=w∧EP X pins σ Q r s') pl (by omega) (by omega) (by rw [List.size_toArray,← hl]; exact h1) (by simpa using ew) ⟨rfl,fin⟩) hs
theorem mapSeq_set (its:List Value) (n j:Nat) (u:Value):Obj.mapSeq (·.setIfInBounds j u) { cls:=.type "list",data:=.seq its.toArray n }={ cls:=.type "list",data:=.seq (its.set j u).toArray n }:=by
 simp [Obj.mapSeq]
theorem Inv.lst {pins:List (Addr × Obj)} {σ:St} {H:Hp} {s:Shared} {p:Addr} {xs:List V} (I:Inv X pins σ H s) (h:H p=some (.lst xs)) :
  ∃ (its:List Value) (n:Nat),Vals xs its∧s.heap.get? p=some { cls:=.type "list",data:=.seq its.toArray n }∧xs.length≤sizeLine:=by
 obtain ⟨z,its,n,r,e⟩:=I.hok p _ h
 exact ⟨its,n,r,e,z⟩
theorem Inv.lstUpd {pins:List (Addr × Obj)} {σ:St} {H:Hp} {s:Shared} {p:Addr} {xs ys:List V} {its its':List Value} {n n':Nat} {f:Obj→Obj} (I:Inv X pins σ H s) (h:H p=some (.lst xs))
  (ho:s.heap.get? p=some { cls:=.type "list",data:=.seq its.toArray n }) (hf:f { cls:=.type "list",data:=.seq its.toArray n }={ cls:=.type "list",data:=.seq its'.toArray n' }) (r:Vals ys its') (hz:ys.length≤sizeLine) (t:Nat) :
  Inv X pins σ (upd H p (.lst ys)) { s with heap:=s.heap.update p f,toks:=t }:=by
 have e:(s.heap.update p f).get? p=some { cls:=.type "list",data:=.seq its'.toArray n' }:=by
  rw [Heap.get?_update_self f ho (by rw [hf] <;> rfl),hf]
 refine I.write (x:=p) (e:=p) (by rw [h]; trivial) (.inl rfl) (fun b u hb q=>(Heap.get?_update_other _ _ (Ne.symm hb)).trans q) ⟨_,e⟩ ?_
 exact ⟨hz,its',n',r,e⟩
def rSetL:V→V→V→Hp→(Hp→Prop)→Prop:=fun o i v H Q=>∃ p xs k j,o=.ref p∧i=.int k∧H p=some (.lst xs)∧ixN xs.length k=some j∧Q (upd H p (.lst (xs.set j v)))
theorem set_list:PSet X rSetL:=by
 intro pins s σ H o i v ov iv u Q I ro ri rv h
 obtain ⟨p,xs,k,j,rfl,rfl,hp,hj,q⟩:=h
 cases ro
 obtain ⟨t,rfl⟩:=ri
 obtain ⟨its,n,r,ho,hz⟩:=I.lst hp
 obtain ⟨h1,h2,h3,h4⟩:=ixN_seq hj
 have hl:=r.length
 have hn:=line63
 have I':Inv X pins σ (upd H p (.lst (xs.set j v))) { s with heap:=s.heap.update p (Obj.mapSeq (·.setIfInBounds j u)) }:=
  I.lstUpd hp ho (mapSeq_set its n j u) (r.set rv j) (by rw [List.length_set]; exact hz) s.toks
 by_cases h0:0≤k
 ·have hk:k.toNat=j:=by
   rw [seqIndex_of h0 h4] at h1
   exact Option.some.inj h1
  exact PySem.W.ki_setAt ho h0 (by omega) (by rw [List.size_toArray,← hl]; exact h4) (by rw [hk]; exact ⟨_,I',q⟩)
 ·have hk:(k + (its.toArray.size:Int)).toNat=j:=by
   rw [seqIndex_neg (by omega) h3] at h1
   rw [List.size_toArray,← hl]
   exact Option.some.inj h1
  exact PySem.W.ki_setBack ho (by omega) (by rw [List.size_toArray,← hl]; exact h3) (by omega) (by rw [hk]; exact ⟨_,I',q⟩)
theorem slice_bounds (lo hi:Option Int) (n:Nat):(sliceBounds lo hi none n).1=((HT.sIx n 0 lo:Nat):Int)∧(sliceBounds lo hi none n).2.1=((HT.sIx n n hi:Nat):Int)∧(sliceBounds lo hi none n).2.2=1:=by
 refine ⟨?_,?_,rfl⟩
 ·cases lo with
  |none=>simp [sliceBounds,HT.sIx]
  |some i=>
   simp only [sliceBounds,HT.sIx,Option.getD_none,show (1:Int) > 0 by decide,if_true]
   by_cases h:i < 0
   ·simp only [h,if_true] <;> omega
   ·simp only [h,if_false] <;> omega
 ·cases hi with
  |none=>simp [sliceBounds,HT.sIx]
  |some i=>
   simp only [sliceBounds,HT.sIx,Option.getD_none,show (1:Int) > 0 by decide,if_true]
   by_cases h:i < 0
   ·simp only [h,if_true] <;> omega
   ·simp only [h,if_false] <;> omega
theorem slicePick_cut (its:List Value) (lo hi:Option Int):slicePick its.toArray lo hi none=((its.drop (HT.sIx its.length 0 lo)).take (HT.sIx its.length its.length hi - HT.sIx its.length 0 lo)).toArray:=by
 obtain ⟨h1,h2,h3⟩:=slice_bounds lo hi its.toArray.size
 unfold slicePick
 rw [h1,h2,h3]
 simp only [sliceRange_one,pick_run,List.size_toArray] <;> rfl
def rSlL (K:PySem.W.Frag):V→Option Int→Option Int→Hp→VK→Prop:=fun x lo hi H Q=>∃ a xs,x=.ref a∧SqL K H a xs∧∀ p,H p=none→Q (.ref p) (upd H p (.lst (cutV xs lo hi)))
theorem sl_list:SlR X (rSlL X.K):=by
 intro pins s σ H x v vl vu lo hi sl Q I rx hs pl pu h
 obtain ⟨a,xs,rfl,hx,q⟩:=h
 cases rx
 obtain ⟨its,r,ht,hz⟩:=I.list hx
 have hlen:=r.length
 refine ⟨"list",_,slot_list_getitem.lookup,ht.isList.typeIs,?_⟩
 refine wpAny_getItem_list_slice ht.isList hs pl pu .none (by simp) ?_ (by rw [List.size_toArray] <;> omega)
 rw [slicePick_cut,← hlen]
 refine ⟨.ref s.heap.objs.size,_,I.laid (t':=s.toks) (o:=.lst (cutV xs lo hi)) (fun b ob q=>Heap.get?_push_of_some _ q) (Nat.le_refl _) ?_,rfl,q _ (I.hok.fresh (Nat.le_refl _))⟩
 exact ⟨Nat.le_trans (cutV_length xs lo hi) hz,_,0,(r.drop (HT.sIx xs.length 0 lo)).take (HT.sIx xs.length xs.length hi - HT.sIx xs.length 0 lo),Heap.get?_push_size _ rfl⟩
def flatV:V→Bool
 | .non=>true
 | .bl _=>true
 | .int _=>true
 | .str _=>true
 |_=>false
def eqV:V→V→Bool
 | .non,.non=>true
 | .bl a,.bl b=>a == b
 | .bl a,.int b=>(if a then 1 else 0) == b
 | .int a,.bl b=>a == (if b then 1 else 0)
 | .int a,.int b=>a == b
 | .str a,.str b=>a == b
 |_,_=>false
theorem eqAt_V {A:Around} {s:Shared} {y x:V} {u v:Value} (ry:RelV y u) (rx:RelV x v) (fy:flatV y=true) (fx:flatV x=true):SeqAt.EqAt A s u v (eqV y x):=by
 cases y with
 |non=>
  cases ry
  cases x with
  |non=>cases rx; exact SeqAt.EqAt.same _
  |bl b=>cases rx; exact SeqAt.EqAt.none_bool b
  |int b=>obtain ⟨t,rfl⟩:=rx; exact SeqAt.EqAt.none_int b t
  |str b=>obtain ⟨t,rfl⟩:=rx; exact SeqAt.EqAt.none_str b t
  |_=>exact absurd (show false=true from fx) Bool.false_ne_true
 |bl a=>
  cases ry
  cases x with
  |non=>cases rx; exact SeqAt.EqAt.bool_none a
  |bl b=>cases rx; exact SeqAt.EqAt.bool_bool a b
  |int b=>obtain ⟨t,rfl⟩:=rx; exact SeqAt.EqAt.bool_int a b t
  |str b=>obtain ⟨t,rfl⟩:=rx; exact SeqAt.EqAt.bool_str a b t
  |_=>exact absurd (show false=true from fx) Bool.false_ne_true
 |int a=>
  obtain ⟨t',rfl⟩:=ry
  cases x with
  |non=>cases rx; exact SeqAt.EqAt.int_none a t'
  |bl b=>cases rx; exact SeqAt.EqAt.int_bool a t' b
  |int b=>obtain ⟨t,rfl⟩:=rx; exact SeqAt.EqAt.int_int a t' b t
  |str b=>obtain ⟨t,rfl⟩:=rx; exact SeqAt.EqAt.int_str a t' b t
  |_=>exact absurd (show false=true from fx) Bool.false_ne_true
 |str a=>
  obtain ⟨t',rfl⟩:=ry
  cases x with
  |non=>cases rx; exact SeqAt.EqAt.str_none a t'
  |bl b=>cases rx; exact SeqAt.EqAt.str_bool a t' b
  |int b=>obtain ⟨t,rfl⟩:=rx; exact SeqAt.EqAt.str_int a t' b t
  |str b=>obtain ⟨t,rfl⟩:=rx; exact SeqAt.EqAt.str_str a t' b t
  |_=>exact absurd (show false=true from fx) Bool.false_ne_true
 |_=>exact absurd (show false=true from fy) Bool.false_ne_true
def eqU (x:V) (u:Value):Bool:=match u with
 | .none=>eqV .non x
 | .bool b=>eqV (.bl b) x
 | .int i _=>eqV (.int i) x
 | .str z _=>eqV (.str z) x
 |_=>false
theorem eqU_of {x y:V} {u:Value} (r:RelV y u) (f:flatV y=true):eqU x u=eqV y x:=by
 cases y with
 |non=>cases r; rfl
 |bl b=>cases r; rfl
 |int i=>obtain ⟨t,rfl⟩:=r; rfl
 |str z=>obtain ⟨t,rfl⟩:=r; rfl
 |_=>exact absurd (show false=true from f) Bool.false_ne_true
theorem any_eqU {x:V}:∀ {xs:List V} {us:List Value},Vals xs us→xs.all flatV=true→us.any (eqU x)=xs.any fun y=>eqV y x
 |_,_,.nil,_=>rfl
 |y::xs,u::us,.cons r t,f=>by
  rw [List.all_cons,Bool.and_eq_true] at f
  rw [List.any_cons,List.any_cons,eqU_of r f.1,any_eqU t f.2]
theorem mem_eqAt {A:Around} {s:Shared} {x:V} {v:Value} (rx:RelV x v) (fx:flatV x=true):∀ {xs:List V} {us:List Value},Vals xs us→xs.all flatV=true→∀ u ∈ us,SeqAt.EqAt A s u v (eqU x u)
 |_,_,.nil,_=>fun u hu=>by cases hu
 |y::xs,u::us,.cons r t,f=>fun u' hu=>by
  rw [List.all_cons,Bool.and_eq_true] at f
  rcases List.mem_cons.mp hu with rfl | hu
  ·rw [eqU_of r f.1]; exact eqAt_V r rx f.1 fx
  ·exact mem_eqAt rx fx t f.2 u' hu
def inV (x:V) (xs:List V):Bool:=xs.any fun y=>eqV y x
def rIn (K:PySem.W.Frag) (neg:Bool):R2:=fun x y H Q=>∃ p xs,y=.ref p∧(SqL K H p xs∨SqT K H p xs)∧flatV x=true∧xs.all flatV=true∧Q (.bl (if neg then !inV x xs else inV x xs)) H
theorem op_in_seq:OpR X (compareOp .In) (rIn X.K false):=by
 intro pins s σ H x y v u Q I rx ry h
 obtain ⟨p,xs,rfl,hq,fx,fs,q⟩:=h
 cases ry
 rcases hq with hq | hq
 ·obtain ⟨its,r,pl,hz⟩:=I.list hq
  refine SeqAt.in_listAt (eqU x) pl.isList (fun w hw=>mem_eqAt rx fx r fs w (by simpa using hw)) ⟨.bl _,H,I,rfl,?_⟩
  rw [show its.toArray.any (eqU x)=its.any (eqU x) by simp,any_eqU r fs]
  exact q
 ·obtain ⟨its,r,pl,hz⟩:=I.tuple hq
  refine SeqAt.in_tupleAt (eqU x) pl (fun w hw=>mem_eqAt rx fx r fs w (by simpa using hw)) ⟨.bl _,H,I,rfl,?_⟩
  rw [show its.toArray.any (eqU x)=its.any (eqU x) by simp,any_eqU r fs]
  exact q
theorem call_len_seq:CallR X (.builtin "len") (fun xs H Q=>∃ p ys,xs=[.ref p]∧(SqL X.K H p ys∨SqT X.K H p ys)∧Q (.int ys.length) H):=by
 intro pins s σ H xs us Q I r h
 obtain ⟨p,ys,rfl,hq,q⟩:=h
 obtain ⟨u,rfl,rx⟩:=vals1 r
 cases rx
 have hn:=line63
 rcases hq with hq | hq
 ·obtain ⟨its,r',pl,hz⟩:=I.list hq
  have hlen:=r'.length
  exact Calls.call_len_list pl.isList (by simp only [List.size_toArray] <;> omega) ⟨.int ys.length,H,I.tok _,⟨s.toks + 1,by rw [List.size_toArray,hlen]⟩,q⟩
 ·obtain ⟨its,r',pl,hz⟩:=I.tuple hq
  have hlen:=r'.length
  exact len_tuple pl (by simp only [List.size_toArray] <;> omega) ⟨.int ys.length,H,I.tok _,⟨s.toks + 1,by rw [List.size_toArray,hlen]⟩,q⟩
def tyV (K:PySem.W.Frag) (T:String) (x:V) (H:Hp):Prop:=match x with
 | .str _=>T="str"
 | .int _=>T="int"
 | .ref p=>(T="list"∧∃ xs,SqL K H p xs)∨(T="tuple"∧∃ o,K.lookup p=some o∧o.cls=.type "tuple"∧o.dict=none)∨
   (T="dict"∧((∃ kvs,H p=some (.dK kvs))∨∃ kvs,H p=some (.dT kvs)))∨(T="set"∧∃ S n,H p=some (.set S n))
 |_=>False
theorem tyV_is {pins:List (Addr × Obj)} {σ:St} {H:Hp} {s:Shared} {T:String} {x:V} {v:Value} (I:Inv X pins σ H s) (r:RelV x v) (ty:tyV X.K T x H) :
  s.TypeIs v T∧∀ a,v=.ref a→∃ ob,s.heap.get? a=some ob∧ob.dict=none:=by
 cases x with
 |str z=>
  obtain ⟨t,rfl⟩:=r
  cases (show T="str" from ty)
  exact ⟨typeIs_str s z t,fun _ e=>nomatch e⟩
 |int i=>
  obtain ⟨t,rfl⟩:=r
  cases (show T="int" from ty)
  exact ⟨typeIs_int s i t,fun _ e=>nomatch e⟩
 |ref p=>
  cases r
  rcases ty with ⟨rfl,xs,hq⟩ | ⟨rfl,o,hk,hc,hd⟩ | ⟨rfl,hk⟩ | ⟨rfl,S,n,hk⟩
  ·obtain ⟨its,_,pl,_⟩:=I.list hq
   refine ⟨pl.isList.typeIs,fun a e=>?_⟩
   cases e
   obtain ⟨o,n,e,c,hd,_⟩:=pl
   exact ⟨o,e,hd⟩
  ·refine ⟨⟨o,I.kIn p o hk,hc⟩,fun a e=>?_⟩
   cases e
   exact ⟨o,I.kIn _ o hk,hd⟩
  ·have z:∃ o,s.heap.get? p=some o∧o.ExactDict:=by
    rcases hk with ⟨kvs,hk⟩ | ⟨kvs,hk⟩
    ·obtain ⟨_,_,_,_,o,_,_,e,ex,_⟩:=I.hok p _ hk
     exact ⟨o,e,ex⟩
    ·obtain ⟨_,_,_,_,o,_,_,e,ex,_⟩:=I.hok p _ hk
     exact ⟨o,e,ex⟩
   obtain ⟨o,e,ex⟩:=z
   refine ⟨⟨o,e,ex.1⟩,fun a e2=>?_⟩
   cases e2
   exact ⟨o,e,ex.2.1⟩
  ·obtain ⟨o,_,_,_,e,ex,_⟩:=I.hok p _ hk
   refine ⟨⟨o,e,ex.1⟩,fun a e2=>?_⟩
   cases e2
   exact ⟨o,e,ex.2.1⟩
 |_=>exact False.elim ty
def tBM0 (K:PySem.W.Frag) (T:String) (r:V→List V→Hp→VK→Prop) (to:TE):TE:=fun σ H Q=>to σ H fun x H1=>tyV K T x H1∧r x [] H1 Q
def tBM (K:PySem.W.Frag) (T:String) (r:V→List V→Hp→VK→Prop) (to:TE) (t:TA):TE:=fun σ H Q=>to σ H fun x H1=>tyV K T x H1∧t σ H1 fun xs H2=>r x xs H2 Q
variable {o e:Expr} {es:List Expr} {to:TE} {t:TA} {name:Str} {apos cpos:Pos} {T id:String} {r:V→List V→Hp→VK→Prop}
theorem pe_bm0 (pa:PlainAttrs T) (slot:Slot T name id) (hty:typeOf (.builtin id)=pure (.type "method_descriptor")) (hm:MtR X id r) (ho:PE X o to)
  (hbase:attributeBase o name X.env (eval o X.env)=eval o X.env:=by rfl) (hline:(apos.endLine == cpos.line)=true:=by rfl):PE X (.Call (.Attribute o name apos) [] [] cpos) (tBM0 X.K T r to):=by
 intro pins s σ H Q I h
 refine wpAny_Call_method0_late hbase hline (thn (ho pins s σ H _ I h) fun v s1 ⟨x,H1,I1,r1,ty,q1⟩=>?_)
 obtain ⟨h1,h2⟩:=tyV_is I1 r1 ty
 exact ⟨T,id,pa,slot,hty,h1,h2,Calls.callWith_builtin rfl (PySem.evalArgs_none (hm pins s1 σ H1 x [] v [] Q I1 r1 .nil q1))⟩
theorem pe_bm (pa:PlainAttrs T) (slot:Slot T name id) (hty:typeOf (.builtin id)=pure (.type "method_descriptor")) (hm:MtR X id r) (ho:PE X o to) (ha:PA X (e::es) t)
  (hbase:attributeBase o name X.env (eval o X.env)=eval o X.env:=by rfl)
  (hfew:((backTo cpos (starEach (e::es) X.env)).all (fun x=>!x.1) && (backToKw cpos (keywordEach [] X.env)).all (fun x=>x.1.isSome)
   && decide ((e::es).length + ([]:List Keyword).length + (if ([]:List Keyword).isEmpty then 0 else 1) < 30))=true:=by rfl)
  (hline:(apos.endLine == cpos.line)=true:=by rfl) (hs:starEach (e::es) X.env=(false,eval e X.env)::starEach es X.env:=by rfl) (hplain:(backTo cpos (starEach es X.env)).any (·.1)=false:=by rfl) :
  PE X (.Call (.Attribute o name apos) (e::es) [] cpos) (tBM X.K T r to t):=by
 intro pins s σ H Q I h
 refine wpAny_Call_method_late hbase hfew hline rfl (thn (ho pins s σ H _ I h) fun v s1 ⟨x,H1,I1,r1,ty,q1⟩=>?_)
 obtain ⟨h1,h2⟩:=tyV_is I1 r1 ty
 refine ⟨T,id,pa,slot,hty,h1,h2,?_⟩
 have hA:=ha cpos pins s1 σ H1 _ I1 q1
 rw [hs] at hA ⊢
 refine Calls.callWith_builtin (by show (false || (backTo cpos (starEach es X.env)).any (·.1))=false; rw [hplain] <;> rfl) (Calls.evalArgs_plain ?_)
 exact thn hA fun us s2 ⟨vs,H2,I2,r2,q2⟩=>hm pins s2 σ H2 x vs v us Q I2 r1 r2 q2
end
end L2
namespace L2
open PySem PySem.Spec PyProof.Rows
def MtM (X:Cx) (id:String) (r:V→List V→Hp→VK→Prop):Prop:=
 ∀ (pins:List (Addr × Obj)) (s:Shared) (σ:St) (H:Hp) (x:V) (xs:List V) (v:Value) (us:List Value) (Q:VK),Inv X pins σ H s→RelV x v→Vals xs us→r x xs H Q→
  wpAny (model X.prog X.w) X.A (call (.builtin id) (v::us)) (EP X pins σ Q) X.xe s
theorem Vals.one:∀ {x:V} {us:List Value},Vals [x] us→∃ u,us=[u]∧RelV x u
 |_,_,.cons r .nil=>⟨_,rfl,r⟩
theorem Vals.rep {xs:List V} {us:List Value} (h:Vals xs us):∀ k:Nat,Vals (List.replicate k xs).flatten (List.replicate k us).flatten
 | 0=>.nil
 |k + 1=>by
  rw [List.replicate_succ,List.replicate_succ,List.flatten_cons,List.flatten_cons]
  exact Vals.append h (Vals.rep h k)
theorem foldl_rep (its:List Value):∀ (k:Nat) (acc:List Value),
  List.foldl (fun x1 x2=>x1 ++ x2) acc.toArray (List.replicate k its.toArray)=(acc ++ (List.replicate k its).flatten).toArray
 | 0,acc=>by simp
 |k + 1,acc=>by
  have e:acc.toArray ++ its.toArray=(acc ++ its).toArray:=by simp
  have e2:(acc ++ its) ++ (List.replicate k its).flatten=acc ++ (List.replicate (k + 1) its).flatten:=by
   rw [List.replicate_succ,List.flatten_cons,List.append_assoc]
  rw [← e2,← foldl_rep its k (acc ++ its),← e,List.replicate_succ,List.foldl_cons]
section
variable {X:Cx} {pins:List (Addr × Obj)} {σ:St} {H:Hp} {s:Shared} {l b:Addr} {xs ys zs:List V}
theorem Inv.lset {its its':List Value} {n:Nat} {f:Array Value→Array Value} {t':Nat} (I:Inv X pins σ H s) (hH:H l=some (.lst xs))
  (e:s.heap.get? l=some { cls:=.type "list",data:=.seq its.toArray n }) (hf:f its.toArray=its'.toArray) (hv:Vals ys its') (hz:ys.length≤sizeLine) :
  Inv X pins σ (upd H l (.lst ys)) { s with heap:=s.heap.update l (Obj.mapSeq f),toks:=t' }:=by
 have q:=PySem.IsL.update e f
 rw [hf] at q
 refine I.write (x:=l) (e:=l) (by rw [hH]; exact trivial) (.inl rfl) (fun b' u hb hu=>(Heap.get?_update_other s.heap (Obj.mapSeq f) (Ne.symm hb)).trans hu) ⟨_,q⟩ ?_
 exact ⟨hz,its',_,hv,q⟩
theorem Inv.lnew {its:List Value} {t':Nat} (I:Inv X pins σ H s) (hv:Vals ys its) (hz:ys.length≤sizeLine) :
  Inv X pins σ (upd H s.heap.objs.size (.lst ys)) { s with heap:=s.heap.push { cls:=.type "list",data:=.seq its.toArray },toks:=t' }:=
 I.laid (fun _ _ q=>Heap.get?_push_of_some _ q) (Nat.le_refl _) ⟨hz,its,0,hv,Heap.get?_push_size _ rfl⟩
theorem Inv.fresh (I:Inv X pins σ H s):H s.heap.objs.size=none:=I.hok.fresh (Nat.le_refl _)
theorem Inv.lstM (I:Inv X pins σ H s) (hH:H l=some (.lst xs)):xs.length≤sizeLine∧∃ (its:List Value) (n:Nat),Vals xs its∧xs.length=its.length∧s.heap.get? l=some { cls:=.type "list",data:=.seq its.toArray n }:=by
 obtain ⟨z,its,n,r,e⟩:=I.hok l _ hH
 exact ⟨z,its,n,r,r.length,e⟩
theorem notLongL {n:Nat} (h:n≤sizeLine):Builtin.List.listTooLong n=false:=by
 unfold Builtin.List.listTooLong
 exact decide_eq_false (by omega)
end
section
variable {X:Cx}
def rAppend:V→List V→Hp→VK→Prop:=fun x vs H Q=>∃ l xs y,x=.ref l∧vs=[y]∧H l=some (.lst xs)∧xs.length < sizeLine∧Q .non (upd H l (.lst (xs ++ [y])))
theorem mt_append:MtM X "list.append" rAppend:=by
 intro pins s σ H x vs v us Q I rx rv h
 obtain ⟨l,xs,y,rfl,rfl,hH,hz,q⟩:=h
 cases rx
 obtain ⟨u,rfl,ru⟩:=rv.one
 obtain ⟨z,its,n,r,hl,e⟩:=I.lstM hH
 refine call_meets F.slot_list_append ⟨_,e,rfl⟩ F.entry_list_append (F.args_list_append_2 _ _) (PySem.list_append l its.toArray n u (by rw [List.size_toArray]; omega)) ⟨e,?_⟩
 refine ⟨.non,_,I.lset (its':=its ++ [u]) hH e (by simp) (r.append (.cons ru .nil)) ?_,rfl,q⟩
 rw [List.length_append,List.length_singleton]
 omega
def rExtend:V→List V→Hp→VK→Prop:=fun x vs H Q=>∃ l b xs zs,x=.ref l∧vs=[.ref b]∧H l=some (.lst xs)∧H b=some (.lst zs)∧xs.length + zs.length≤sizeLine∧Q .non (upd H l (.lst (xs ++ zs)))
theorem mt_extend:MtM X "list.extend" rExtend:=by
 intro pins s σ H x vs v us Q I rx rv h
 obtain ⟨l,b,xs,zs,rfl,rfl,hH,hB,hz,q⟩:=h
 cases rx
 obtain ⟨u,rfl,ru⟩:=rv.one
 cases ru
 obtain ⟨z,its,n,r,hl,e⟩:=I.lstM hH
 obtain ⟨z2,its2,n2,r2,hl2,e2⟩:=I.lstM hB
 have hsz:its.toArray.size + its2.toArray.size≤sizeLine:=by rw [List.size_toArray,List.size_toArray]; omega
 have hlong:¬ (!its.toArray.isEmpty && Builtin.List.listTooLong (its.toArray.size + its2.toArray.size))=true:=by
  rw [notLongL hsz,Bool.and_false]
  exact Bool.false_ne_true
 refine call_meets F.slot_list_extend ⟨_,e,rfl⟩ F.entry_list_extend (F.args_list_extend_2 _ _)
  (AutoSeq1.list_extend_list_list_0 l its.toArray n b its2.toArray n2 hlong (by rw [List.size_toArray]; omega) (by omega)) ⟨e,e2,?_⟩
 refine ⟨.non,_,I.lset (its':=its ++ its2) hH e (by simp) (r.append r2) ?_,rfl,q⟩
 rw [List.length_append]
 omega
def rCat:R2:=fun x y H Q=>∃ l b xs zs,x=.ref l∧y=.ref b∧H l=some (.lst xs)∧H b=some (.lst zs)∧xs.length + zs.length≤sizeLine∧∀ p,H p=none→Q (.ref p) (upd H p (.lst (xs ++ zs)))
theorem op_cat:OpR X (binaryOp .Add) rCat:=by
 intro pins s σ H x y v u Q I rx ry h
 obtain ⟨l,b,xs,zs,rfl,rfl,hH,hB,hz,q⟩:=h
 cases rx
 cases ry
 obtain ⟨z,its,n,r,hl,e⟩:=I.lstM hH
 obtain ⟨z2,its2,n2,r2,hl2,e2⟩:=I.lstM hB
 refine PySem.P.add_list e e2 ?_ (by rw [List.size_toArray,List.size_toArray]; omega)
 have ea:its.toArray ++ its2.toArray=(its ++ its2).toArray:=by simp
 rw [ea]
 exact ⟨.ref _,_,I.lnew (t':=s.toks) (r.append r2) (by rw [List.length_append]; omega),rfl,q _ I.fresh⟩
def rRep:R2:=fun x y H Q=>∃ l k xs,x=.ref l∧y=.int k∧H l=some (.lst xs)∧-(2 ^ 63)≤k∧k < 2 ^ 63∧xs.length * k.toNat≤sizeLine∧
 ∀ p,H p=none→Q (.ref p) (upd H p (.lst (List.replicate k.toNat xs).flatten))
theorem len_rep {α:Type} (xs:List α) (k:Nat):(List.replicate k xs).flatten.length=k * xs.length:=by
 induction k with
 |zero=>simp
 |succ k ih=>rw [List.replicate_succ,List.flatten_cons,List.length_append,ih,Nat.succ_mul,Nat.add_comm]
theorem op_rep:OpR X (binaryOp .Mult) rRep:=by
 intro pins s σ H x y v u Q I rx ry h
 obtain ⟨l,k,xs,rfl,rfl,hH,h1,h2,hz,q⟩:=h
 cases rx
 obtain ⟨t,rfl⟩:=ry
 obtain ⟨z,its,n,r,hl,e⟩:=I.lstM hH
 have hlen:its.toArray.size * k.toNat≤sizeLine:=by rw [List.size_toArray,← hl]; exact hz
 have hcap:¬ its.toArray.size * k.toNat > (2 ^ 63 - 1) / 8:=by
  have:(sizeLine:Nat)≤(2 ^ 63 - 1) / 8:=by decide
  omega
 have hfit:¬ (!Builtin.List.listFitsIndex k)=true:=by
  rw [fitsIndex_both h1 h2]
  exact Bool.false_ne_true
 have hlong:¬ Builtin.List.listTooLong (its.toArray.size * k.toNat)=true:=by
  rw [notLongL hlen]
  exact Bool.false_ne_true
 have hnew:List.foldl (fun x1 x2=>x1 ++ x2) #[] (List.replicate (if its.toArray.isEmpty=true then 0 else k.toNat) its.toArray)=(List.replicate k.toNat its).flatten.toArray:=by
  have f0:∀ m:Nat,List.foldl (fun x1 x2=>x1 ++ x2) #[] (List.replicate m its.toArray)=(List.replicate m its).flatten.toArray:=fun m=>by
   have:=foldl_rep its m []
   rw [List.nil_append] at this
   exact this
  rw [f0]
  cases its with
  |nil=>simp
  |cons a r'=>rw [if_neg (by simp)]
 refine wpAny_binaryOp_repeat_ref (T:="list") (U:="int") (by decide) ⟨_,e,rfl⟩ (fun s'=>typeIs_int s' k t) noFill_list_mul F.fills_int_mul F.slot_int_rmul repeat_list F.slot_int_index.lookup
  (call_meets F.slot_int_rmul (typeIs_int s k t) F.entry_int_rmul (F.args_int_rmul_2 _ _) (int___rmul___int_list k t l its.toArray n)
   ⟨e,rfl,⟨_,e,rfl⟩,call_meets F.slot_list_mul ⟨_,e,rfl⟩ F.entry_list_mul (F.args_list_mul_2 _ _) (AutoListH.list___mul___list_int_3 l its.toArray n k t hfit hcap hlong) ⟨e,?_⟩⟩)
 rw [hnew]
 exact ⟨.ref _,_,I.lnew (t':=s.toks) (r.rep k.toNat) (by rw [len_rep,Nat.mul_comm]; exact hz),rfl,q _ I.fresh⟩
end
section
variable {prog:Program} {w:World} {A:Around} {E:Value→Shared→Prop} {s:Shared}
end
section
variable {X:Cx}
end
end L2
namespace L2
open PySem PySem.Spec PyProof.Rows
theorem Vals.ints:∀ {ns:List Int} {us:List Value},Vals (ns.map V.int) us→IntsAre us ns
 | [],us,h=>by
  rw [List.map_nil] at h
  cases h
  exact IntsAre.nil
 |n::ns,us,h=>by
  rw [List.map_cons] at h
  cases h with
  |cons r t=>
   obtain ⟨k,rfl⟩:=r
   exact IntsAre.cons n k (Vals.ints t)
theorem vals_of_ints:∀ {us:List Value} {ns:List Int},IntsAre us ns→Vals (ns.map V.int) us
 |_,_,.nil=>by rw [List.map_nil]; exact Paired.nil
 |_,_,.cons n t h=>by rw [List.map_cons]; exact Paired.cons (show RelV (V.int n) (Value.int n t) from ⟨t,rfl⟩) (vals_of_ints h)
theorem Vals.bls:∀ {bs:List Bool} {us:List Value},Vals (bs.map V.bl) us→us=bs.map Value.bool
 | [],us,h=>by
  rw [List.map_nil] at h
  cases h
  rfl
 |b::bs,us,h=>by
  rw [List.map_cons] at h
  cases h with
  |cons r t=>
   cases r
   rw [Vals.bls t,List.map_cons]
theorem Vals.ref1 {a:Addr} {us:List Value} (r:Vals [V.ref a] us):us=[Value.ref a]:=by
 cases r with
 |cons r t=>
  cases t
  cases r
  rfl
section
variable {prog:Program} {w:World} {A:Around} {E:Value→Shared→Prop} {s:Shared} {l:Addr} {its:List Value} {ns:List Int} {Q:Value→Shared→Prop}
theorem max_raw (hh:A.handled=none) (hl:s.heap.IsList l its.toArray) (hi:IntsAre its ns) (hne:0 < ns.length)
  (h:∀ h' tk M t',(∀ b o,s.heap.get? b=some o→h'.get? b=some o)→M ∈ ns→(∀ a,a ∈ ns→a≤M)→Q (.int M t') { s with heap:=h',toks:=tk }):wpAny (model prog w) A (call (.builtin "max") [.ref l]) Q E s:=by
 obtain ⟨xs,e⟩:=hi.allInts.items
 have hn:numsOf (intItems xs).toList=ns:=by rw [← e]; exact hi.numsOf
 rw [nums_intItems] at hn
 subst hn
 rw [e] at hl
 have hsz:0 < xs.size:=by simpa using hne
 refine PySem.max_intList hh hl hsz fun v h' tk hv hk=>?_
 obtain ⟨t,rfl⟩:=intItems_at hv
 obtain ⟨h1,h2⟩:=argBest_gt (numAt xs) (xs.size - 1)
 refine h h' tk _ t hk ?_ fun a ha=>?_
 ·rw [numAt_eq]; exact PySem.getD_mem (by rw [List.length_map,Array.length_toList]; omega)
 ·obtain ⟨j,hj,rfl⟩:=mem_getD ha
  rw [List.length_map,Array.length_toList] at hj
  rw [← numAt_eq]; exact h2 j (by omega)
end
section
variable {X:Cx}
def rMax (K:PySem.W.Frag):List V→Hp→VK→Prop:=fun vs H Q=>∃ (a:Addr) (ns:List Int),vs=[V.ref a]∧SqL K H a (ns.map V.int)∧0 < ns.length∧∀ m,m ∈ ns→(∀ y,y ∈ ns→y≤m)→Q (.int m) H
theorem cr_max (hc:X.calm=true):CallR X (.builtin "max") (rMax X.K):=by
 intro pins s σ H vs us Q I r h
 obtain ⟨a,ns,rfl,hs,hne,q⟩:=h
 obtain ⟨its,rv,hl,_⟩:=I.list hs
 rw [Vals.ref1 r]
 exact max_raw (I.ok.hd hc) hl.isList rv.ints hne fun h' tk m t' hk h1 h2=>⟨.int _,H,I.kept hk,⟨_,rfl⟩,q m h1 h2⟩
end
section
variable {X:Cx}
end
section
variable {X:Cx}
end
theorem iter_any {prog:Program} {w:World} {A:Around} {E:Value→Shared→Prop} {s:Shared} {l:Addr} {items:Array Value} {Q:Value→Shared→Prop} (hl:s.heap.IsList l items)
  (h:∀ s₂:Shared,s₂={ s with heap:=s.heap.push { cls:=.type "list_iterator",data:=.fields #[.ref l,.int 0 0] } }→
   (s₂.heap.IsListIter s.heap.objs.size l 0∧s₂.heap.IsList l items)→l ≠ s.heap.objs.size→Q (.ref s.heap.objs.size) s₂):wpAny (model prog w) A (pyIter (.ref l)) Q E s:=by
 have hlt:l < s.heap.objs.size:=by obtain ⟨_,e,_⟩:=hl; exact Heap.lt_size e
 exact wpAny_pyIter_list hl (h _ rfl ⟨⟨_,Heap.get?_push_size _ rfl,rfl,rfl⟩,hl.push _⟩ (Nat.ne_of_lt hlt))
theorem truth_bools {prog:Program} {w:World} {A:Around} {bs:List Bool} {its:List Value} (e:its=bs.map Value.bool) :
  TruthOf prog w A (fun i v=>its.toArray[i]?=some v) (fun i=>bs.getD i false):=fun i v s Q E hv hq=>by
 have hv':its[i]?=some v:=by simpa using hv
 rw [e,List.getElem?_map] at hv'
 obtain ⟨b,hb,rfl⟩:=Option.map_eq_some_iff.mp hv'
 have hg:bs.getD i false=b:=by rw [List.getD_eq_getElem?_getD,hb] <;> rfl
 have hq':Q (bs.getD i false) s:=hq
 rw [hg] at hq'
 exact wpAny_truthy_bool hq'
theorem any_range:∀ bs:List Bool,(List.range bs.length).any (fun i=>bs.getD i false)=bs.any id
 | []=>rfl
 |b::bs=>by
  rw [List.length_cons,List.range_succ_eq_map,List.any_cons,List.any_map,List.any_cons,← any_range bs]
  all_goals rfl
theorem all_range:∀ bs:List Bool,(List.range bs.length).all (fun i=>bs.getD i false)=bs.all id
 | []=>rfl
 |b::bs=>by
  rw [List.length_cons,List.range_succ_eq_map,List.all_cons,List.all_map,List.all_cons,← all_range bs]
  all_goals rfl
section
variable {X:Cx}
def rAny (K:PySem.W.Frag):List V→Hp→VK→Prop:=fun vs H Q=>∃ (a:Addr) (bs:List Bool),vs=[V.ref a]∧SqL K H a (bs.map V.bl)∧Q (.bl (bs.any id)) H
def rAll (K:PySem.W.Frag):List V→Hp→VK→Prop:=fun vs H Q=>∃ (a:Addr) (bs:List Bool),vs=[V.ref a]∧SqL K H a (bs.map V.bl)∧Q (.bl (bs.all id)) H
theorem cr_any (hc:X.calm=true):CallR X (.builtin "any") (rAny X.K):=by
 intro pins s σ H vs us Q I r h
 obtain ⟨a,bs,rfl,hs,q⟩:=h
 obtain ⟨its,rv,hl,_⟩:=I.list hs
 rw [Vals.ref1 r]
 have hb:=rv.bls
 refine call_any_walk (iter_any hl.isList fun s₂ e2 st hne=>?_)
 subst e2
 refine ⟨_,_,_,_,_,_,_,rfl,Walks.list (A:=X.A.in1) (I.ok.hd hc) _ a hne its.toArray,st,truth_bools hb,fun h' tk hk=>?_⟩
 refine ⟨.bl _,H,I.kept fun b o eo=>hk b o (fun hmem=>?_) (Heap.get?_push_of_some _ eo),?_,q⟩
 ·rcases List.mem_cons.mp hmem with e1 | hmem
  ·exact absurd (e1 ▸ Heap.lt_size eo) (Nat.lt_irrefl _)
  ·cases hmem
 ·show Value.bool _=Value.bool _
  rw [← any_range,hb,List.size_toArray,List.length_map]
theorem cr_all (hc:X.calm=true):CallR X (.builtin "all") (rAll X.K):=by
 intro pins s σ H vs us Q I r h
 obtain ⟨a,bs,rfl,hs,q⟩:=h
 obtain ⟨its,rv,hl,_⟩:=I.list hs
 rw [Vals.ref1 r]
 have hb:=rv.bls
 refine call_all_walk (iter_any hl.isList fun s₂ e2 st hne=>?_)
 subst e2
 refine ⟨_,_,_,_,_,_,_,rfl,Walks.list (A:=X.A.in1) (I.ok.hd hc) _ a hne its.toArray,st,truth_bools hb,fun h' tk hk=>?_⟩
 refine ⟨.bl _,H,I.kept fun b o eo=>hk b o (fun hmem=>?_) (Heap.get?_push_of_some _ eo),?_,q⟩
 ·rcases List.mem_cons.mp hmem with e1 | hmem
  ·exact absurd (e1 ▸ Heap.lt_size eo) (Nat.lt_irrefl _)
  ·cases hmem
 ·show Value.bool _=Value.bool _
  rw [← all_range,hb,List.size_toArray,List.length_map]
end
section
variable {X:Cx} {pins:List (Addr × Obj)} {σ:St} {H:Hp} {s:Shared}
end
section
variable {X:Cx}
end
end L2
namespace L2
open PySem PySem.Spec PyProof.Rows
abbrev CellAt (h:Heap) (c:Addr) (v:Option Value):Prop:=h.IsCell c v
def relS (scope sc:Scope):Scope:=
 { scope with names:=scope.names.map fun (n,k)=>if (k == .free && sc.kind == .function && sc.names.lookup n == some .cell) then (n,.cell) else (n,k) }
def cloFrom (cells:List (Str × Addr)):List (Str × NameKind)→List (Str × Addr)→List (Str × Addr)
 | [],acc=>acc
 |(n,k)::r,acc=>if k == .free then cloFrom cells r ((n,(cells.lookup n).getD 0)::acc) else cloFrom cells r acc
theorem closure_loop (env:Env) (f:Str × NameKind→List (Str × Addr)→Sem (ForInStep (List (Str × Addr))))
  (hf:∀ n k c,f (n,k) c=if k == .free then (do let a ← cellOf env n; pure (.yield ((n,a)::c))) else pure (.yield c)) :
  ∀ (names:List (Str × NameKind)) (acc:List (Str × Addr)),(∀ y ∈ names,y.2=.free→∃ c,env.cells.lookup y.1=some c)→forIn names acc f=pure (cloFrom env.cells names acc)
 | [],acc,_=>by rw [List.forIn_nil]; rfl
 |(n,k)::r,acc,h=>by
  rw [List.forIn_cons,hf]
  have ih:=fun acc=>closure_loop env f hf r acc fun y hy=>h y (List.mem_cons_of_mem _ hy)
  unfold cloFrom
  by_cases hk:(k == NameKind.free)=true
  ·rw [if_pos hk,if_pos hk]
   obtain ⟨c,hc⟩:=h (n,k) List.mem_cons_self (by simpa using hk)
   have e:cellOf env n=pure c:=by unfold cellOf; rw [hc]
   rw [e]
   have e2:(env.cells.lookup n).getD 0=c:=by rw [hc]; rfl
   rw [e2]
   exact ih _
  ·rw [if_neg hk,if_neg hk]
   exact ih _
theorem closure_ok {scope:Scope} {env:Env} (h:∀ y ∈ scope.names,y.2=.free→∃ c,env.cells.lookup y.1=some c):closureFor scope env=pure (cloFrom env.cells scope.names []):=by
 simp only [closureFor]
 rw [closure_loop env _ (fun n k c=>rfl) scope.names [] h]
 rfl
theorem mem_lookup {α:Type}:∀ {l:List (Str × α)} {n:Str} {c:α},(n,c) ∈ l→∃ c',l.lookup n=some c'
 |(k,v)::r,n,c,h=>by
  rw [List.lookup_cons]
  cases hb:n == k with
  |true=>exact ⟨_,rfl⟩
  |false=>
   rcases List.mem_cons.mp h with e | h
   ·cases e; simp at hb
   ·exact mem_lookup h
theorem cloFrom_mem {cells:List (Str × Addr)}:∀ {names:List (Str × NameKind)} {acc:List (Str × Addr)} {n:Str} {c:Addr},(n,c) ∈ cloFrom cells names acc→(n,c) ∈ acc∨((n,.free) ∈ names∧c=(cells.lookup n).getD 0)
 | [],_,_,_,h=>.inl h
 |(m,k)::r,acc,n,c,h=>by
  unfold cloFrom at h
  split at h
  ·rename_i hk
   have hk:k=.free:=by simpa using hk
   rcases cloFrom_mem h with h | ⟨h1,h2⟩
   ·rcases List.mem_cons.mp h with e | h
    ·cases e; exact .inr ⟨hk ▸ List.mem_cons_self,rfl⟩
    ·exact .inl h
   ·exact .inr ⟨List.mem_cons_of_mem _ h1,h2⟩
  ·rcases cloFrom_mem h with h | ⟨h1,h2⟩
   ·exact .inl h
   ·exact .inr ⟨List.mem_cons_of_mem _ h1,h2⟩
theorem cloFrom_acc {cells:List (Str × Addr)}:∀ {names:List (Str × NameKind)} {acc:List (Str × Addr)} {p:Str × Addr},p ∈ acc→p ∈ cloFrom cells names acc
 | [],_,_,h=>h
 |(m,k)::r,acc,p,h=>by
  unfold cloFrom
  split
  ·exact cloFrom_acc (List.mem_cons_of_mem _ h)
  ·exact cloFrom_acc h
theorem cloFrom_has {cells:List (Str × Addr)}:∀ {names:List (Str × NameKind)} {acc:List (Str × Addr)} {n:Str},(n,.free) ∈ names→(n,(cells.lookup n).getD 0) ∈ cloFrom cells names acc
 |(m,k)::r,acc,n,h=>by
  unfold cloFrom
  rcases List.mem_cons.mp h with e | h
  ·cases e
   exact cloFrom_acc List.mem_cons_self
  ·split
   ·exact cloFrom_has h
   ·exact cloFrom_has h
theorem cells_mem:∀ {names:List (Str × NameKind)} {h:Heap} {acc:List (Str × Addr)} {x:Str} {c:Addr},(x,c) ∈ cellsFrom h.objs.size names acc→
  (x,c) ∈ acc∨((x,.cell) ∈ names∧h.objs.size≤c∧CellAt (pushCells h names) c none)
 | [],_,_,_,_,h=>.inl h
 |(n,k)::r,h,acc,x,c,hm=>by
  unfold cellsFrom at hm
  unfold pushCells
  split at hm
  ·rename_i hk
   rw [if_pos hk]
   have hk:k=.cell:=by simpa using hk
   rw [← Heap.size_push h { cls:=.type "cell",data:=.cell none }] at hm
   rcases cells_mem hm with hm | ⟨h1,h2,h3⟩
   ·rcases List.mem_cons.mp hm with e | hm
    ·cases e
     exact .inr ⟨hk ▸ List.mem_cons_self,Nat.le_refl _,_,pushCells_keeps r _ _ _ (Heap.get?_push_size _ rfl),rfl⟩
    ·exact .inl hm
   ·rw [Heap.size_push] at h2
    exact .inr ⟨List.mem_cons_of_mem _ h1,Nat.le_of_succ_le h2,h3⟩
  ·rename_i hk
   rw [if_neg hk]
   rcases cells_mem hm with hm | ⟨h1,h2,h3⟩
   ·exact .inl hm
   ·exact .inr ⟨List.mem_cons_of_mem _ h1,h2,h3⟩
theorem cells_acc:∀ {names:List (Str × NameKind)} {n:Nat} {acc:List (Str × Addr)} {p:Str × Addr},p ∈ acc→p ∈ cellsFrom n names acc
 | [],_,_,_,h=>h
 |(m,k)::r,n,acc,p,h=>by
  unfold cellsFrom
  split
  ·exact cells_acc (List.mem_cons_of_mem _ h)
  ·exact cells_acc h
theorem cells_has:∀ {names:List (Str × NameKind)} {n:Nat} {acc:List (Str × Addr)} {x:Str},(x,.cell) ∈ names→∃ c,(x,c) ∈ cellsFrom n names acc
 |(m,k)::r,n,acc,x,h=>by
  unfold cellsFrom
  rcases List.mem_cons.mp h with e | h
  ·cases e
   exact ⟨n,cells_acc List.mem_cons_self⟩
  ·split
   ·exact cells_has h
   ·exact cells_has h
theorem cells_inj:∀ {names:List (Str × NameKind)} {h:Heap} {acc:List (Str × Addr)} {x y:Str} {c:Addr},(∀ p ∈ acc,p.2 < h.objs.size)→(∀ x y c,(x,c) ∈ acc→(y,c) ∈ acc→x=y)→
  (x,c) ∈ cellsFrom h.objs.size names acc→(y,c) ∈ cellsFrom h.objs.size names acc→x=y
 | [],_,_,_,_,_,_,hi,h1,h2=>hi _ _ _ h1 h2
 |(n,k)::r,h,acc,x,y,c,hl,hi,h1,h2=>by
  unfold cellsFrom at h1 h2
  split at h1
  ·rename_i hk
   rw [if_pos hk] at h2
   rw [← Heap.size_push h { cls:=.type "cell",data:=.cell none }] at h1 h2
   refine cells_inj (h:=h.push _) (fun p hp=>?_) (fun x y c a b=>?_) h1 h2
   ·rw [Heap.size_push]
    rcases List.mem_cons.mp hp with rfl | hp
    ·exact Nat.lt_succ_self _
    ·exact Nat.lt_succ_of_lt (hl p hp)
   ·rcases List.mem_cons.mp a with e | a <;> rcases List.mem_cons.mp b with e' | b
    ·cases e; cases e'; rfl
    ·cases e; exact absurd (hl _ b) (Nat.lt_irrefl _)
    ·cases e'; exact absurd (hl _ a) (Nat.lt_irrefl _)
    ·exact hi _ _ _ a b
  ·rename_i hk
   rw [if_neg hk] at h2
   exact cells_inj hl hi h1 h2
theorem newEnv_comp {M:Model} {A:Around} {E:Value→Shared→Prop} {s:Shared} {scope:Scope} {globals:Addr} {closure:List (Str × Addr)} {qual:Str} {func:Option Addr} {code:Value} {around:Env} {builtins:Addr} {Q:Env→Shared→Prop}
  (h:Q (newEnv scope s.heap.objs.size globals (cellsFrom (s.heap.objs.size + 1) scope.names closure) qual func code (some around) builtins)
   { s with heap:=pushCells (s.heap.push { cls:=.type "dict",data:=.dict #[] }) scope.names }) :
  wpAny M A (newFunctionEnv scope globals closure [] qual func code (some around) builtins) Q E s:=by
 simp only [newFunctionEnv,Option.isSome_some,if_true]
 refine wpAny_bind (wpAny_alloc ?_)
 refine wpAny_bind (wpAny_layCells _ (fun n k c=>rfl) scope.names closure _ _ ?_)
 rw [show ({ s with heap:=s.heap.push { cls:=.type "dict",data:=.dict #[] } }:Shared).heap.objs.size=s.heap.objs.size + 1 from Heap.size_push ..]
 rw [List.forIn_nil]
 exact wpAny_bind (wpAny_pure (wpAny_pure h))
theorem lookup_relS {sc:Scope}:∀ {names:List (Str × NameKind)} {x:Str} {k:NameKind},
  (names.map fun (n,k)=>if (k == NameKind.free && sc.kind == .function && sc.names.lookup n == some .cell) then (n,NameKind.cell) else (n,k)).lookup x=some k→
  ∃ k',names.lookup x=some k'∧(k=k'∨(k'=.free∧k=.cell))
 | [],_,_,h=>by simp at h
 |(n,k₀)::r,x,k,h=>by
  have ih:=@lookup_relS sc r x k
  have h':List.lookup x ((if (k₀ == NameKind.free && sc.kind == .function && sc.names.lookup n == some .cell)=true then (n,NameKind.cell) else (n,k₀))::(r.map _))=some k:=h
  cases hx:x == n with
  |true=>
   simp only [List.lookup_cons,hx]
   by_cases hc:(k₀ == NameKind.free && sc.kind == .function && sc.names.lookup n == some .cell)=true
   ·rw [if_pos hc] at h'
    simp only [List.lookup_cons,hx] at h'
    cases h'
    simp only [Bool.and_eq_true,beq_iff_eq] at hc
    exact ⟨k₀,rfl,.inr ⟨hc.1.1,rfl⟩⟩
   ·rw [if_neg hc] at h'
    simp only [List.lookup_cons,hx] at h'
    cases h'
    exact ⟨_,rfl,.inl rfl⟩
  |false=>
   simp only [List.lookup_cons,hx]
   by_cases hc:(k₀ == NameKind.free && sc.kind == .function && sc.names.lookup n == some .cell)=true
   ·rw [if_pos hc] at h'
    simp only [List.lookup_cons,hx] at h'
    exact ih h'
   ·rw [if_neg hc] at h'
    simp only [List.lookup_cons,hx] at h'
    exact ih h'
structure BlkOk (N:List Str) (sc scope:Scope) (own:List (Str × Nat)):Prop where
 kind:scope.kind=.function
 uniq:∀ y ∈ scope.names,scope.names.lookup y.1=some y.2
 ix:∀ p ∈ own,N[p.2]?=some p.1
 free:∀ y ∈ scope.names,y.2=.free→sc.names.lookup y.1=some .cell∨sc.names.lookup y.1=some .free
 own:∀ y ∈ scope.names,y.2=.local∨y.2=.cell→y.1 ∈ own.map (·.1)∨y.1 ∉ N
def wipe (σ:St):List Nat→St
 | []=>σ
 |v::vs=>(wipe σ vs).set v none
theorem wipe_length (σ:St):∀ vs:List Nat,(wipe σ vs).length=σ.length
 | []=>rfl
 |v::vs=>by unfold wipe; rw [List.length_set,wipe_length σ vs]
theorem wipe_some {σ:St} {i:Nat} {x:V}:∀ {vs:List Nat},(wipe σ vs)[i]?=some (some x)→σ[i]?=some (some x)∧i ∉ vs
 | [],h=>⟨h,by simp⟩
 |v::vs,h=>by
  unfold wipe at h
  by_cases hi:v=i
  ·subst hi
   by_cases hv:v < (wipe σ vs).length
   ·rw [List.getElem?_set_self hv] at h; cases h
   ·rw [List.getElem?_eq_none (by simpa using hv)] at h; cases h
  ·rw [List.getElem?_set_ne hi] at h
   obtain ⟨h1,h2⟩:=wipe_some h
   exact ⟨h1,by simp only [List.mem_cons,not_or]; exact ⟨fun e=>hi e.symm,h2⟩⟩
abbrev Cx.blk (X:Cx) (s:Shared) (H:Hp) (scope:Scope) (cenv:Env) (fp:List Addr):Cx:={ X with s_0:=s,H_0:=H,env:=cenv,outer:=X.stack,ex:=fp,fn:=fun x=>scope.names.lookup x == some .cell,pn:=[],xe:=fun _ _=>False }
section
variable {X:Cx} {pins:List (Addr × Obj)} {σ:St} {H:Hp} {s:Shared}
theorem block_start {scope:Scope} {own:List (Str × Nat)} {fp:List Addr} (I:Inv X pins σ H s) (ok:BlkOk X.N X.env.scope scope own) (hN:X.N.Nodup) (hfp:∀ b ∈ fp,FpOk X pins H b∧b < s.heap.objs.size) :
  Inv (X.blk s H scope (compEnvC scope (cellsFrom (s.heap.objs.size + 1) scope.names (cloFrom X.env.cells scope.names [])) s.heap.objs.size X.env) fp) [] (wipe σ (own.map (·.2))) H { s with heap:=pushCells (s.heap.push { cls:=.type "dict",data:=.dict #[] }) scope.names }:=by
 have hfree:∀ y ∈ scope.names,y.2=.free→∃ c,X.env.cells.lookup y.1=some c:=fun y hy e=>by
  rcases ok.free y hy e with k | k
  ·exact I.ok.has _ (.inl k)
  ·exact I.ok.has _ (.inr k)
 generalize hcenv:compEnvC scope (cellsFrom (s.heap.objs.size + 1) scope.names (cloFrom X.env.cells scope.names [])) s.heap.objs.size X.env=cenv
 have kp:∀ b o,s.heap.get? b=some o→(pushCells (s.heap.push { cls:=.type "dict",data:=.dict #[] }) scope.names).get? b=some o:=fun b o e=>pushCells_keeps _ _ _ _ (Heap.get?_push_of_some _ e)
 have hL:cenv.locals=s.heap.objs.size:=by rw [← hcenv]; rfl
 have hcl:cenv.cells=cellsFrom (s.heap.objs.size + 1) scope.names (cloFrom X.env.cells scope.names []):=by rw [← hcenv]; rfl
 have hsc:cenv.scope=relS scope X.env.scope:=by rw [← hcenv]; rfl
 rw [← Heap.size_push s.heap { cls:=.type "dict",data:=.dict #[] }] at hcl
 have cm:∀ {y c},(y,c) ∈ cloFrom X.env.cells scope.names []→X.env.cells.lookup y=some c∧c < s.heap.objs.size:=fun {y c} hm=>by
  rcases cloFrom_mem hm with hm | ⟨h1,rfl⟩
  ·cases hm
  ·obtain ⟨c,hc⟩:=hfree _ h1 rfl
   rw [hc]
   obtain ⟨w,z⟩:=I.cell _ _ hc
   exact ⟨rfl,z.lt⟩
 have mem:∀ {y c},cenv.cells.lookup y=some c→(X.env.cells.lookup y=some c∧c < s.heap.objs.size)∨(s.heap.objs.size + 1≤c∧CellAt (pushCells (s.heap.push { cls:=.type "dict",data:=.dict #[] }) scope.names) c none):=fun {y c} e=>by
  rw [hcl] at e
  rcases cells_mem (PySem.mem_of_lookup e) with hm | ⟨_,h2,h3⟩
  ·exact .inl (cm hm)
  ·rw [Heap.size_push] at h2; exact .inr ⟨h2,h3⟩
 have look:∀ {y},scope.names.lookup y=some .free→∃ c,cenv.cells.lookup y=some c∧X.env.cells.lookup y=some c:=fun {y} hl=>by
  have hy:(y,NameKind.free) ∈ scope.names:=PySem.mem_of_lookup hl
  obtain ⟨c',e'⟩:=mem_lookup (cells_acc (names:=scope.names) (n:=(s.heap.push { cls:=.type "dict",data:=.dict #[] }).objs.size) (cloFrom_has (cells:=X.env.cells) (acc:=[]) hy))
  rw [← hcl] at e'
  refine ⟨c',e',?_⟩
  rw [hcl] at e'
  rcases cells_mem (PySem.mem_of_lookup e') with hm | ⟨h1,_,_⟩
  ·exact (cm hm).1
  ·have:=ok.uniq _ h1
   rw [hl] at this; cases this
 have okB:(X.blk s H scope cenv fp).Ok:=by
  refine ⟨I.ok.mod,by show cenv.scope.kind=_; rw [hsc]; exact ok.kind,by show cenv.globals=_; rw [← hcenv]; exact I.ok.glob,by show cenv.builtins=_; rw [← hcenv]; exact I.ok.blt,by show s.heap.objs.size≤cenv.locals; rw [hL]; exact Nat.le_refl _,
   fun y z c e1 e2=>?_,fun y hy=>?_,fun y c z e=>?_,I.ok.hd,I.ok.frames,.inl rfl,fun b hb=>⟨?_,fun y c e z=>?_⟩,I.bs,Nat.le_trans I.ok.bsz I.sz,fun b o e hb=>?_,fun b hb z=>?_,I.stack,I.stkFree⟩
  ·have e1:cenv.cells.lookup y=some c:=e1
   have e2:cenv.cells.lookup z=some c:=e2
   rw [hcl] at e1 e2
   refine cells_inj (fun p hp=>?_) (fun y z c a b=>I.ok.inj y z c (cm a).1 (cm b).1) (PySem.mem_of_lookup e1) (PySem.mem_of_lookup e2)
   rw [Heap.size_push]
   exact Nat.lt_succ_of_lt (cm (y:=p.1) (c:=p.2) hp).2
  ·show ∃ c,cenv.cells.lookup y=some c
   have key:∀ k,cenv.kindOf y=some k→(k=.cell∨k=.free)→∃ c,cenv.cells.lookup y=some c:=fun k hk hk'=>by
    unfold Env.kindOf at hk
    rw [hsc] at hk
    obtain ⟨k',e,r⟩:=lookup_relS hk
    have:k'=.cell∨k'=.free:=by
     rcases r with rfl | ⟨rfl,_⟩
     ·exact hk'
     ·exact .inr rfl
    rcases this with rfl | rfl
    ·obtain ⟨c,hm⟩:=cells_has (n:=(s.heap.push { cls:=.type "dict",data:=.dict #[] }).objs.size) (acc:=cloFrom X.env.cells scope.names []) (PySem.mem_of_lookup e)
     obtain ⟨c',e'⟩:=mem_lookup hm
     exact ⟨c',by rw [hcl]; exact e'⟩
    ·obtain ⟨c,h1,_⟩:=look e
     exact ⟨c,h1⟩
   rcases hy with hy | hy
   ·exact key _ hy (.inl rfl)
   ·exact key _ hy (.inr rfl)
  ·have z:(scope.names.lookup y == some NameKind.cell)=true:=z
   have z:scope.names.lookup y=some .cell:=by simpa using z
   have e:cenv.cells.lookup y=some c:=e
   rw [hcl] at e
   rcases cells_mem (PySem.mem_of_lookup e) with hm | ⟨_,h2,_⟩
   ·rcases cloFrom_mem hm with hm | ⟨h1,_⟩
    ·cases hm
    ·have q:=ok.uniq _ h1
     rw [z] at q; cases q
   ·rw [Heap.size_push] at h2
    exact Nat.le_of_succ_le h2
  ·show b ≠ cenv.locals
   rw [hL]; exact Nat.ne_of_lt (hfp b hb).2
  ·have e:cenv.cells.lookup y=some c:=e
   rcases mem e with ⟨h1,_⟩ | ⟨h1,_⟩
   ·exact (hfp b hb).1.2.2.2.2.1 y c h1 z
   ·have h2:s.heap.objs.size + 1≤b:=by rw [← z]; exact h1
    exact absurd (Nat.lt_of_lt_of_le (hfp b hb).2 (Nat.le_of_succ_le h2)) (Nat.lt_irrefl _)
  ·rcases (hfp b hb).1.2.2.2.1 with z | z
   ·exact I.ok.noex b o e z
   ·exact absurd (Nat.lt_of_lt_of_le (Heap.lt_size e) (Nat.le_trans I.ok.bsz z)) (Nat.lt_irrefl _)
  ·rcases List.mem_cons.mp (I.stkSub b z) with z | z
   ·exact (hfp b hb).1.2.1 z
   ·exact (hfp b hb).1.2.2.1 z
 refine ⟨okB,rfl,I.bare,Un.kept kp,⟨fun _=>none,?_,fun i y av e1 e2 e3=>?_⟩,fun y c e=>?_,?_,fun y c e=>?_,fun p hp=>?_,I.hok.kept kp,by rw [wipe_length]; exact I.len⟩
 ·show Heap.Ns _ cenv.locals _
  rw [hL]
  exact Heap.Ns.keeps (Heap.Ns.new ..) fun b o e=>pushCells_keeps _ _ _ _ e
 ·obtain ⟨e2,hne⟩:=wipe_some e2
  have hfr:scope.names.lookup y=some .free∧(cenv.kindOf y=some .cell∨cenv.kindOf y=some .free):=by
   have key:∀ k,cenv.scope.names.lookup y=some k→k=.local∨k=.cell∨k=.free→scope.names.lookup y=some .free∧(cenv.kindOf y=some .cell∨cenv.kindOf y=some .free):=fun k hk hk'=>by
    have hk0:=hk
    rw [hsc] at hk
    obtain ⟨k',e,r⟩:=lookup_relS hk
    have no:¬ (k'=.local∨k'=.cell):=fun hh=>by
     rcases ok.own _ (PySem.mem_of_lookup e) hh with e' | e'
     ·obtain ⟨p,hp,hpy⟩:=List.mem_map.mp e'
      have e3:=ok.ix p hp
      have:p.1=y:=hpy
      rw [this] at e3
      exact hne (List.mem_map.mpr ⟨p,hp,nodup_ix hN e3 e1⟩)
     ·exact e' (List.mem_of_getElem? e1)
    rcases r with rfl | ⟨rfl,rfl⟩
    ·rcases hk' with rfl | rfl | rfl
     ·exact absurd (.inl rfl) no
     ·exact absurd (.inr rfl) no
     ·exact ⟨e,.inr hk0⟩
    ·exact ⟨e,.inl hk0⟩
   have e3:Vis cenv.scope y:=e3
   rcases e3 with e3 | e3 | e3
   ·exact key _ e3 (.inl rfl)
   ·exact key _ e3 (.inr (.inl rfl))
   ·exact key _ e3 (.inr (.inr rfl))
  obtain ⟨m,hn,hl⟩:=I.loc
  have hvis:Vis X.env.scope y:=(ok.free _ (PySem.mem_of_lookup hfr.1) rfl).elim (fun k=>.inr (.inl k)) (fun k=>.inr (.inr k))
  obtain ⟨w,r,q⟩:=hl i y av e1 e2 hvis
  refine ⟨w,r,.inr ⟨hfr.2,?_⟩⟩
  obtain ⟨c,h1,h2⟩:=look hfr.1
  rcases q with ⟨k,_⟩ | ⟨_,c',e',z⟩
  ·have k:X.env.scope.names.lookup y=some .local:=k
   rcases ok.free _ (PySem.mem_of_lookup hfr.1) rfl with k' | k' <;> rw [show X.env.scope.names.lookup y=_ from k'] at k <;> cases k
  ·rw [h2] at e'; cases e'
   exact ⟨c,h1,z.keeps kp⟩
 ·have e:cenv.cells.lookup y=some c:=e
  rcases mem e with ⟨h1,_⟩ | ⟨_,z⟩
  ·obtain ⟨w,z⟩:=I.cell y c h1
   exact ⟨w,z.keeps kp⟩
  ·exact ⟨_,z⟩
 ·show H cenv.locals=none
  rw [hL]; exact I.hok.fresh (Nat.le_refl _)
 ·have e:cenv.cells.lookup y=some c:=e
  rcases mem e with ⟨h1,_⟩ | ⟨h1,_⟩
  ·exact I.freeC y c h1
  ·exact I.hok.fresh (Nat.le_of_succ_le h1)
 ·exact absurd (show p ∈ ([]:List (Addr × Obj)) ++ [] from hp) (by simp)
theorem app_ok {E:Value→Shared→Prop} {D:Addr} {xs:List V} {y:V} {v:Value} {Q:Value→Shared→Prop} (I:Inv X pins σ H s) (hD:H D=some (.lst xs)) (hz:xs.length < sizeLine) (r:RelV y v)
  (h:∀ s',Inv X pins σ (upd H D (.lst (xs ++ [y]))) s'→Q .none s'):wpAny (model X.prog X.w) X.A (call (.builtin "list.append") [.ref D,v]) Q E s:=by
 obtain ⟨hz',its,n,ri,e⟩:=I.hok D _ hD
 have hl:=ri.length
 refine append_at (hsz:=by rw [List.size_toArray]; omega) e fun h' sb ho'=>?_
 refine h { s with heap:=h' } (I.write (t':=s.toks) (by rw [hD]; trivial) (.inl rfl) (fun b u hb q=>(sb.2 b hb).trans q) ⟨_,ho'⟩ ⟨by rw [List.length_append]; exact hz,its ++ [v],n + 1,ri.append (.cons r .nil),?_⟩)
 rw [ho']
 simp
def PTs (X:Cx) (ifs:List Expr) (t:TT):Prop:=
 ∀ (pins:List (Addr × Obj)) (s:Shared) (σ:St) (H:Hp) (Q:Bool→Hp→Prop),Inv X pins σ H s→t σ H Q→
  wpAny (model X.prog X.w) X.A (forIn ifs true fun c r=>if r=true then do let ok ← isTrue c X.env (eval c X.env); pure (ForInStep.yield ok) else pure (ForInStep.yield r)) (TP X pins σ Q) X.xe s
def tYes:TT:=fun _ H Q=>Q true H
theorem pts_nil:PTs X [] tYes:=fun _ _ _ H _ I h=>wpAny_tests_nil ⟨H,I,h⟩
theorem pts_one {c:Expr} {t:TT} (h:PT X c t):PTs X [c] t:=fun pins s σ H Q I hw=>wpAny_tests_one (h pins s σ H Q I hw)
end
theorem thnF {α:Type} {t:Sem α} {Q Q':α→Shared→Prop} {M:Model} {A:Around} {E:Value→Shared→Prop} {s:Shared} (h:wpAny M A t Q (fun _ _=>False) s) (hQ:∀ a s,Q a s→Q' a s):wpAny M A t Q' E s:=wpAny_mono h hQ fun _ _ z=>False.elim z
theorem compLoop_any {prog:Program} {w:World} {A:Around} {R:Result→Shared→Prop} {s:Shared} {elt target iter:Expr} {ifs:List Expr} {scope:Scope} {pos:Pos} {it acc:Value} {env:Env} (I:Nat→Shared→Prop)
  (turn:∀ n s,I n s→wpAny (model prog w) A (pyNext it) (fun r s₁=>match r with
   |none=>R (.ok .next) s₁
   |some v=>wpAny (model prog w) A (letOwnedTupleGo target it v) (fun _ s₁'=>wpAny (model prog w) A (assign target env v) (fun _ s₂=>
     wpAny (model prog w) A (forIn ifs true fun c r=>if r=true then do let ok ← isTrue c env (eval c env); pure (ForInStep.yield ok) else pure (ForInStep.yield r)) (fun ok s₃=>
      if ok=true then wpAny (model prog w) A (eval elt env) (fun x s₄=>
       wpAny (model prog w) A (call (.builtin "list.append") [acc,x]) (fun _ s₅=>∃ m,m < n∧I m s₅) (notedBy (model prog w) A env fun e s'=>R (.error e) s') s₄) (notedBy (model prog w) A env fun e s'=>R (.error e) s') s₃
      else ∃ m,m < n∧I m s₃) (notedBy (model prog w) A env fun e s'=>R (.error e) s') s₂) (notedBy (model prog w) A env fun e s'=>R (.error e) s') s₁') (notedBy (model prog w) A env fun e s'=>R (.error e) s') s₁) (notedBy (model prog w) A env fun e s'=>R (.error e) s') s)
  (n:Nat) (h:I n s) :
  codeAny (model prog w) A (.compLoop (.ListComp elt [⟨target,iter,ifs,0⟩] scope pos) 0 it acc env) R s:=by
 refine codeAny_loop rfl I (fun n s hI=>?_) n h
 show wpAny _ A ((compTurn (.ListComp elt [⟨target,iter,ifs,0⟩] scope pos) 0 it acc env).onRaise (fun x=>do noteFrame x env; theTreesLotGoes x)) _ _ s
 refine wpAny_noted ?_
 rw [compTurn_list]
 refine wpAny_bind (wpAny_standAt (wpAny_bind (wpAny_mono (turn n s hI) (fun r s₁ h₁=>?_) fun _ _ h'=>h')))
 cases r with
 |none=>exact wpAny_pure h₁
 |some v=>
  refine wpAny_bind (wpAny_mono h₁ (fun _ s₁' h₁'=>?_) fun _ _ h'=>h')
  refine wpAny_bind (wpAny_mono h₁' (fun _ s₂ h₂=>wpAny_bind (wpAny_mono h₂ (fun ok s₃ h₃=>?_) fun _ _ h'=>h')) fun _ _ h'=>h')
  cases ok with
  |false=>exact wpAny_pure ⟨rfl,h₃⟩
  |true=>
   exact wpAny_bind (wpAny_bind (wpAny_mono h₃ (fun x s₄ h₄=>wpAny_bind (wpAny_mono h₄ (fun _ s₅ h₅=>wpAny_pure (wpAny_pure ⟨rfl,h₅⟩)) fun _ _ h'=>h')) fun _ _ h'=>h'))
section
variable {X:Cx}
def tLc (wi:TI) (g:TG) (tt:TT) (te:TE) (vs:List Nat):TE:=fun σ H Q=>wi σ H fun J H1=>∀ D,H1 D=none→∃ W:Nat→Nat→Hp→Prop,(∃ m,W 0 m (upd H1 D (.lst [])))∧∀ i m H,W i m H→
 (J.stop i H∧Q (.ref D) H)∨(J.go i H∧∃ Nx:Hp→Prop,(∀ H',Nx H'→∃ m',m' < m∧W (i + 1) m' H')∧∀ x H',J.yld i H x H'→g x (wipe σ vs) H' fun σ2 H2=>wipe σ2 vs=wipe σ vs∧tt σ2 H2 fun b H3=>
  if b=true then te σ2 H3 fun y H4=>∃ acc,H4 D=some (.lst acc)∧acc.length < sizeLine∧Nx (upd H4 D (.lst (acc ++ [y]))) else Nx H3)
theorem lc_core {pins:List (Addr × Obj)} {s:Shared} {σ:St} {H:Hp} {Q:VK} {elt tg iter:Expr} {ifs:List Expr} {scope:Scope} {own:List (Str × Nat)} {pos pos':Pos} {wi:TI} {g:TG} {tt:TT} {te:TE} {use:Option (Value→Sem Unit)} {Qf:Value→Shared→Prop}
  (hc:X.calm=true) (hN:X.N.Nodup) (I:Inv X pins σ H s) (hi:PI X tg iter wi) (ok:BlkOk X.N X.env.scope scope own)
  (hg:∀ (s:Shared) (H:Hp) (C:Addr) (cl:List (Str × Addr)) (fp:List Addr),PG (X.blk s H scope (compEnvC scope cl C X.env) fp) tg g) (ht:∀ (s:Shared) (H:Hp) (C:Addr) (cl:List (Str × Addr)) (fp:List Addr),PTs (X.blk s H scope (compEnvC scope cl C X.env) fp) ifs tt)
  (he:∀ (s:Shared) (H:Hp) (C:Addr) (cl:List (Str × Addr)) (fp:List Addr),PE (X.blk s H scope (compEnvC scope cl C X.env) fp) elt te) (hs:∀ x,foldedSetIterable iter X.env x=pure x)
  (h:tLc wi g tt te (own.map (·.2)) σ H Q)
  (hRR:∀ D C s' m H',Inv X pins σ H' s'→Q (.ref D) H'→s'.heap.Ns C m→FpOk X pins H' C→compPost (model X.prog X.w) X.A X.xe use Qf (.ref D) C (.ok .next) s') :
  wpAny (model X.prog X.w) X.A (comprehension (.ListComp elt [⟨tg,iter,ifs,0⟩] scope pos) scope X.env pos' (newList []) false (eval iter X.env) use) Qf X.xe s:=by
 have hfree:∀ y ∈ scope.names,y.2=.free→∃ c,X.env.cells.lookup y.1=some c:=fun y hy e=>by
  rcases ok.free y hy e with k | k
  ·exact I.ok.has _ (.inl k)
  ·exact I.ok.has _ (.inr k)
 refine wpAny_comprehension_free (use:=use) rfl hs (closure_ok hfree) ok.kind (fun y hy e=>by rw [ok.uniq y hy,e])
  (thn (hi pins s σ H _ I h) fun xv s1 hx=>thn hx fun itv s2 h2=>?_)
 obtain ⟨it,fp,tn,J,H2,e,I2,T,st2,f2,q⟩:=h2
 subst e
 refine wpAny_newObj_type (newEnv_comp ?_) (by show 0≤sizeLine; decide)
 generalize hD:s2.heap.objs.size=D
 have hDn:H2 D=none:=I2.hok.fresh (Nat.le_of_eq hD)
 obtain ⟨W,⟨m0,w0⟩,turn⟩:=q D hDn
 generalize hs3:({ s2 with heap:=s2.heap.push { cls:=.type "list",data:=.seq ([]:List Value).toArray } }:Shared)=s3
 have I3:Inv X pins σ (upd H2 D (.lst [])) s3:=by
  rw [← hs3]
  refine I2.laid (t':=s2.toks) (fun b o e=>Heap.get?_push_of_some _ e) (Nat.le_of_eq hD) ⟨Nat.zero_le _,[],0,.nil,?_⟩
  rw [← hD]
  exact Heap.get?_push_size _ rfl
 have h3:s3.heap=s2.heap.push { cls:=.type "list",data:=.seq ([]:List Value).toArray }:=by rw [← hs3]
 have sz:∀ b ∈ fp,b < s2.heap.objs.size:=fun b hb=>by
  obtain ⟨o,e,_⟩:=T.obj _ _ st2 b hb
  exact Heap.lt_size e
 have f3:∀ b ∈ fp,FpOk X pins (upd H2 D (.lst [])) b∧b < s3.heap.objs.size:=fun b hb=>by
  have hlt:=sz b hb
  refine ⟨⟨?_,(f2 b hb).2⟩,by rw [h3,Heap.size_push]; exact Nat.lt_succ_of_lt hlt⟩
  rw [upd_ne (by rw [← hD]; exact Nat.ne_of_lt hlt)]
  exact (f2 b hb).1
 have st3:tn 0 s3.heap:=T.keep _ _ _ st2 fun b _ o e=>by rw [h3]; exact Heap.get?_push_of_some _ e
 have I4:=block_start I3 ok hN f3
 have pg:=hg s3 (upd H2 D (.lst [])) s3.heap.objs.size (cellsFrom (s3.heap.objs.size + 1) scope.names (cloFrom X.env.cells scope.names [])) fp
 have pt:=ht s3 (upd H2 D (.lst [])) s3.heap.objs.size (cellsFrom (s3.heap.objs.size + 1) scope.names (cloFrom X.env.cells scope.names [])) fp
 have pe:=he s3 (upd H2 D (.lst [])) s3.heap.objs.size (cellsFrom (s3.heap.objs.size + 1) scope.names (cloFrom X.env.cells scope.names [])) fp
 show codeAny _ _ (.compStart (.ListComp elt [⟨tg,iter,ifs,0⟩] scope pos) 0 (.ref it) (.ref D) (compEnvC scope (cellsFrom (s3.heap.objs.size + 1) scope.names (cloFrom X.env.cells scope.names [])) s3.heap.objs.size X.env)) (compPost (model X.prog X.w) X.A X.xe use Qf (.ref D) s3.heap.objs.size) { s3 with heap:=pushCells (s3.heap.push { cls:=.type "dict",data:=.dict #[] }) scope.names }
 have nfp:∀ b ∈ fp,(upd H2 D (.lst [])) b=none:=fun b hb=>(f3 b hb).1.1
 generalize hce:compEnvC scope (cellsFrom (s3.heap.objs.size + 1) scope.names (cloFrom X.env.cells scope.names [])) s3.heap.objs.size X.env=ce at I4 pg pt pe ⊢
 have cL:ce.locals=s3.heap.objs.size:=by subst hce; rfl
 generalize hH3:upd H2 D (.lst [])=H3 at I3 I4 pg pt pe w0 nfp f3
 generalize hs4:({ s3 with heap:=pushCells (s3.heap.push { cls:=.type "dict",data:=.dict #[] }) scope.names }:Shared)=s4 at I4 ⊢
 have st4:tn 0 s4.heap:=T.keep _ _ _ st3 fun b _ o e=>by rw [← hs4]; exact pushCells_keeps _ _ _ _ (Heap.get?_push_of_some _ e)
 have stat:∀ {σ':St} {H':Hp} {s':Shared},Inv (X.blk s3 H3 scope ce fp) [] σ' H' s'→(∀ b ∈ fp,H' b=none)→∀ b ∈ fp,FpOk (X.blk s3 H3 scope ce fp) [] H' b:=fun {σ' H' s'} I' hn b hb=>
  ⟨hn b hb,(I'.ok.exf b hb).1,I'.ok.exfs b hb,.inl hb,fun x c e=>(I'.ok.exf b hb).2 x c e,fun p hp=>absurd (show p ∈ ([]:List (Addr × Obj)) ++ [] from hp) (by simp)⟩
 have loop:codeAny (model X.prog X.w) X.A (.compLoop (.ListComp elt [⟨tg,iter,ifs,0⟩] scope pos) 0 (.ref it) (.ref D) ce) (compPost (model X.prog X.w) X.A X.xe use Qf (.ref D) s3.heap.objs.size) s4:=by
  refine compLoop_any (fun n s'=>∃ i H',Inv (X.blk s3 H3 scope ce fp) [] (wipe σ (own.map (·.2))) H' s'∧tn i s'.heap∧(∀ b ∈ fp,H' b=none)∧W i n H') ?_ m0 ⟨0,H3,I4,st4,nfp,w0⟩
  rintro n s5 ⟨i,H5,I5,st5,n5,w5⟩
  rcases turn i n H5 w5 with ⟨stop,qq⟩ | ⟨go,Nx,hNx,step⟩
  ·have td:=T.done (X.blk s3 H3 scope ce fp) rfl rfl rfl hc i [] s5 _ H5 (fun _ _=>False) I5 (stat I5 n5) st5 stop
   refine thnF td fun r s6 ⟨hr,I6⟩=>?_
   subst hr
   have I7:Inv X pins σ H5 s6:=I3.call' (ch:=fp) I6.os I6.base I6.hok I6.bare fun b hb=>⟨(f3 b hb).1.2.2.2.1,(f3 b hb).1.2.1,(f3 b hb).1.2.2.2.2.1,(f3 b hb).1.2.2.2.2.2⟩
   have nC:H5 s3.heap.objs.size=none:=by
    have z:H5 ce.locals=none:=I6.free
    rw [cL] at z
    exact z
   obtain ⟨m,hn,_⟩:=I6.loc
   have hn:s6.heap.Ns ce.locals m:=hn
   rw [cL] at hn
   exact hRR D s3.heap.objs.size s6 m H5 I7 qq hn (I3.fpOk (Nat.le_refl _) nC)
  ·have ti:=T.item (X.blk s3 H3 scope ce fp) rfl rfl rfl hc i [] s5 _ H5 (fun _ _=>False) I5 (stat I5 n5) st5 go
   refine thnF ti fun r s6 ⟨u,hr,h6⟩=>?_
   subst hr
   refine thnF h6 fun _ s7 ⟨x,H7,I7,r7,y7,st7,n7⟩=>?_
   have I7':=I7.pinned (stat I7 n7) (T.obj _ _ st7)
   refine thnF (pg _ s7 _ H7 x u _ I7' r7 (step x H7 y7)) fun _ s8 ⟨σ8,H8,I8,hw8,q8⟩=>?_
   refine thnF (pt _ s8 σ8 H8 _ I8 q8) fun b s9 ⟨H9,I9,q9⟩=>?_
   have fin:∀ {s':Shared} {H':Hp},Inv (X.blk s3 H3 scope ce fp) ([] ++ pinsAt fp s7.heap) σ8 H' s'→Nx H'→∃ m,m < n∧∃ i H',Inv (X.blk s3 H3 scope ce fp) [] (wipe σ (own.map (·.2))) H' s'∧tn i s'.heap∧(∀ b ∈ fp,H' b=none)∧W i m H':=fun {s' H'} I' nx=>by
    obtain ⟨m',hm,w'⟩:=hNx H' nx
    have pin':∀ b ∈ fp,∀ o,s7.heap.get? b=some o→s'.heap.get? b=some o∧H' b=none:=fun b hb o e=>
     let z:=I'.pin (b,o) (List.mem_append_right _ (List.mem_append_right _ (mem_pinsAt hb e)))
     ⟨z.1,z.2.1⟩
    have hl:(wipe σ (own.map (·.2))).length=σ8.length:=by rw [← hw8,wipe_length]
    refine ⟨m',hm,i + 1,H',(I'.unpinned (pins:=[])).weak hl (fun j v e=>?_),T.keep _ _ _ st7 fun b hb o e=>(pin' b hb o e).1,fun b hb=>?_,w'⟩
    ·rw [← hw8] at e
     exact (wipe_some e).1
    ·obtain ⟨o,e,_⟩:=T.obj _ _ st7 b hb
     exact (pin' b hb o e).2
   cases b with
   |false=>
    simp only [Bool.false_eq_true,if_false] at q9 ⊢
    exact fin I9 q9
   |true=>
    simp only [if_true] at q9 ⊢
    refine thnF (pe _ s9 σ8 H9 _ I9 q9) fun z s10 ⟨yv,H10,I10,r10,acc,hD10,hz10,nx⟩=>?_
    exact app_ok (X:=X.blk s3 H3 scope ce fp) I10 hD10 hz10 r10 fun s11 I11=>fin I11 nx
 exact codeAny_compStart_list loop (T.self X.A 0 _ _ _ st4 loop)
theorem pe_lc {elt tg iter:Expr} {ifs:List Expr} {scope:Scope} {own:List (Str × Nat)} {pos:Pos} {wi:TI} {g:TG} {tt:TT} {te:TE} (hc:X.calm=true) (hN:X.N.Nodup) (hi:PI X tg iter wi) (ok:BlkOk X.N X.env.scope scope own)
  (hg:∀ (s:Shared) (H:Hp) (C:Addr) (cl:List (Str × Addr)) (fp:List Addr),PG (X.blk s H scope (compEnvC scope cl C X.env) fp) tg g) (ht:∀ (s:Shared) (H:Hp) (C:Addr) (cl:List (Str × Addr)) (fp:List Addr),PTs (X.blk s H scope (compEnvC scope cl C X.env) fp) ifs tt)
  (he:∀ (s:Shared) (H:Hp) (C:Addr) (cl:List (Str × Addr)) (fp:List Addr),PE (X.blk s H scope (compEnvC scope cl C X.env) fp) elt te) (hs:∀ x,foldedSetIterable iter X.env x=pure x:=by intro _; rfl) :
  PE X (.ListComp elt [⟨tg,iter,ifs,0⟩] scope pos) (tLc wi g tt te (own.map (·.2))):=by
 intro pins s σ H Q I h
 rw [eval_ListComp]
 refine lc_core hc hN I hi ok hg ht he hs h fun D C s' m H' I' q hn f=>⟨m,hn,fun h'' sb=>?_⟩
 obtain ⟨f0,f1,f2,f3,f4,f5⟩:=f
 exact ⟨.ref D,H',I'.turned (t':=s'.toks) (fun b o hb e=>(sb.2 b hb).trans e) f0 f1 f3 f4 f5,rfl,q⟩
theorem ps_setLc {i:Nat} {y:Str} {py:Pos} {elt tg iter:Expr} {ifs:List Expr} {scope:Scope} {own:List (Str × Nat)} {pos spos:Pos} {wi:TI} {g:TG} {tt:TT} {te:TE} (hc:X.calm=true) (hN:X.N.Nodup) (hy:X.N[i]?=some y) (hyl:X.env.scope.names.lookup y=some .local)
  (hsw:swapsWith (.ListComp elt [⟨tg,iter,ifs,0⟩] scope pos) (some (.Name y py)) spos.line X.env=pure true) (hi:PI X tg iter wi) (ok:BlkOk X.N X.env.scope scope own)
  (hg:∀ (s:Shared) (H:Hp) (C:Addr) (cl:List (Str × Addr)) (fp:List Addr),PG (X.blk s H scope (compEnvC scope cl C X.env) fp) tg g) (ht:∀ (s:Shared) (H:Hp) (C:Addr) (cl:List (Str × Addr)) (fp:List Addr),PTs (X.blk s H scope (compEnvC scope cl C X.env) fp) ifs tt)
  (he:∀ (s:Shared) (H:Hp) (C:Addr) (cl:List (Str × Addr)) (fp:List Addr),PE (X.blk s H scope (compEnvC scope cl C X.env) fp) elt te) (hs:∀ x,foldedSetIterable iter X.env x=pure x:=by intro _; rfl) :
  PS X (.Assign [.Name y py] (.ListComp elt [⟨tg,iter,ifs,0⟩] scope pos) spos) (tAsg (tLc wi g tt te (own.map (·.2))) (gName i)):=by
 intro pins s σ H D I h
 rw [exec_Assign_Name_used _ _ _ _ hsw]
 refine wpAny_bind (wpAny_standAt (wpAny_bind ?_))
 show wpAny _ X.A (do let _ ← comprehension (.ListComp elt [⟨tg,iter,ifs,0⟩] scope pos) scope X.env (firstIterPos [⟨tg,iter,ifs,0⟩] pos) (newList []) false (eval iter X.env) (some (assign (.Name y py) X.env))) _ _ s
 have h:tLc wi g tt te (own.map (·.2)) σ H (fun x H1=>gName i x σ H1 D.nx):=h
 refine wpAny_bind (thn (lc_core (Qf:=fun _ s'=>SP X pins D .next s') hc hN I hi ok hg ht he hs h fun L C s' m H' I' q hn f=>?_) fun _ s' hq=>wpAny_pure (wpAny_pure hq))
 show wpAny _ _ (assign (.Name y py) X.env (.ref L)) _ _ _
 refine wpAny_assign_Name (store_ok2 (v:=V.ref L) I' hN hy (.inl hyl) rfl (fun s2 I2 ⟨a,sb,ha⟩=>?_) (.inr hyl))
 obtain ⟨f0,f1,f2,f3,f4,f5⟩:=f
 have haC:C ≠ a:=by
  rcases ha with z | z
  ·rw [z]; exact f1
  ·exact fun e=>f4 y a z e.symm
 refine ⟨m,hn.sameBut sb haC,fun h3 sb3=>?_⟩
 exact ⟨_,H',I2.turned (t':=s2.toks) (fun b o hb e=>(sb3.2 b hb).trans e) f0 f1 f3 f4 f5,q⟩
theorem sw_true {elt:Expr} {gs:List Comprehension} {scope:Scope} {pos py:Pos} {y:Str} {l:Nat} {env:Env} (hk:env.scope.kind=.function) (hy:env.scope.names.lookup y=some .local) (hl:(py.line == pos.line)=true)
  (ha:(scope.names.any fun (n,k)=>n == y && (k == .local || k == .cell))=false):swapsWith (.ListComp elt gs scope pos) (some (.Name y py)) l env=pure true:=by
 have ky:env.kindOf y=some .local:=hy
 have hb:env.blockKind=.function:=by unfold Env.blockKind; rw [hk]; rfl
 unfold swapsWith
 simp only [hb,ky,ha,Expr.pos,hl]
 rfl
end
theorem lc_range {lo:Int} {n:Nat} {g:TG} {tt:TT} {te:TE} {vs:List Nat} {σ:St} {H1:Hp} {D:Addr} {Qd:Hp→Prop} (Pv:Nat→Hp→Prop) (h0:Pv 0 (upd H1 D (.lst [])))
  (hs:∀ i H,i < n→Pv i H→g (.int (lo + i)) (wipe σ vs) H fun σ2 H2=>wipe σ2 vs=wipe σ vs∧tt σ2 H2 fun b H3=>
   if b=true then te σ2 H3 fun y H4=>∃ acc,H4 D=some (.lst acc)∧acc.length < sizeLine∧Pv (i + 1) (upd H4 D (.lst (acc ++ [y]))) else Pv (i + 1) H3) (hd:∀ H,Pv n H→Qd H) :
  ∃ W:Nat→Nat→Hp→Prop,(∃ m,W 0 m (upd H1 D (.lst [])))∧∀ i m H,W i m H→
   ((Itr lo n).stop i H∧Qd H)∨((Itr lo n).go i H∧∃ Nx:Hp→Prop,(∀ H',Nx H'→∃ m',m' < m∧W (i + 1) m' H')∧∀ x H',(Itr lo n).yld i H x H'→g x (wipe σ vs) H' fun σ2 H2=>wipe σ2 vs=wipe σ vs∧tt σ2 H2 fun b H3=>
    if b=true then te σ2 H3 fun y H4=>∃ acc,H4 D=some (.lst acc)∧acc.length < sizeLine∧Nx (upd H4 D (.lst (acc ++ [y]))) else Nx H3):=by
 refine ⟨fun i m H=>m=n - i∧i≤n∧Pv i H,⟨n,by simp,Nat.zero_le _,h0⟩,?_⟩
 rintro i m H ⟨rfl,hi,p⟩
 by_cases hlt:i < n
 ·refine .inr ⟨hlt,Pv (i + 1),fun H' p'=>⟨n - (i + 1),by omega,rfl,hlt,p'⟩,fun x H' y=>?_⟩
  obtain ⟨e,y⟩:=y
  subst e y
  exact hs i _ hlt p
 ·have e:i=n:=by omega
  subst e
  exact .inl ⟨Nat.le_refl _,hd H p⟩
theorem lc_list {K:PySem.W.Frag} {a:Addr} {xs:List V} {g:TG} {tt:TT} {te:TE} {vs:List Nat} {σ:St} {H1:Hp} {D:Addr} {Qd:Hp→Prop} (Pv:Nat→Hp→Prop) (h0:Pv 0 (upd H1 D (.lst []))) (hl:∀ i H,i≤xs.length→Pv i H→SqL K H a xs)
  (hs:∀ i x H,xs[i]?=some x→Pv i H→g x (wipe σ vs) H fun σ2 H2=>wipe σ2 vs=wipe σ vs∧tt σ2 H2 fun b H3=>
   if b=true then te σ2 H3 fun y H4=>∃ acc,H4 D=some (.lst acc)∧acc.length < sizeLine∧Pv (i + 1) (upd H4 D (.lst (acc ++ [y]))) else Pv (i + 1) H3) (hd:∀ H,Pv xs.length H→Qd H) :
  ∃ W:Nat→Nat→Hp→Prop,(∃ m,W 0 m (upd H1 D (.lst [])))∧∀ i m H,W i m H→
   ((Itl K a).stop i H∧Qd H)∨((Itl K a).go i H∧∃ Nx:Hp→Prop,(∀ H',Nx H'→∃ m',m' < m∧W (i + 1) m' H')∧∀ x H',(Itl K a).yld i H x H'→g x (wipe σ vs) H' fun σ2 H2=>wipe σ2 vs=wipe σ vs∧tt σ2 H2 fun b H3=>
    if b=true then te σ2 H3 fun y H4=>∃ acc,H4 D=some (.lst acc)∧acc.length < sizeLine∧Nx (upd H4 D (.lst (acc ++ [y]))) else Nx H3):=by
 refine ⟨fun i m H=>m=xs.length - i∧i≤xs.length∧Pv i H,⟨xs.length,by simp,Nat.zero_le _,h0⟩,?_⟩
 rintro i m H ⟨rfl,hi,p⟩
 have q:=hl i H hi p
 by_cases hlt:i < xs.length
 ·refine .inr ⟨⟨xs,xs[i],q,by simp [hlt]⟩,Pv (i + 1),fun H' p'=>⟨xs.length - (i + 1),by omega,rfl,hlt,p'⟩,fun x H' y=>?_⟩
  obtain ⟨e,y⟩:=y
  subst e
  exact hs i x _ (y xs q) p
 ·have e:i=xs.length:=by omega
  subst e
  exact .inl ⟨⟨xs,q,Nat.le_refl _⟩,hd H p⟩
def blkC (N:List Str) (sc scope:Scope) (own:List (Str × Nat)):Bool:=
 (match scope.kind with | .function=>true | _=>false) && (scope.names.all fun y=>decide (scope.names.lookup y.1=some y.2)) && (own.all fun p=>decide (N[p.2]?=some p.1)) &&
  (scope.names.all fun y=>match y.2 with
   | .free=>(match sc.names.lookup y.1 with | some .cell=>true | some .free=>true | _=>false)
   | .local=>decide (y.1 ∈ own.map (·.1)) || decide (y.1 ∉ N)
   | .cell=>decide (y.1 ∈ own.map (·.1)) || decide (y.1 ∉ N)
   |_=>true)
theorem blkOk_by {N:List Str} {sc scope:Scope} {own:List (Str × Nat)} (h:blkC N sc scope own=true):BlkOk N sc scope own:=by
 unfold blkC at h
 simp only [Bool.and_eq_true,List.all_eq_true,decide_eq_true_eq] at h
 obtain ⟨⟨⟨h1,h2⟩,h3⟩,h4⟩:=h
 refine ⟨?_,h2,h3,fun y hy e=>?_,fun y hy e=>?_⟩
 ·split at h1
  ·assumption
  ·cases h1
 ·have q:=h4 y hy
  simp only [e] at q
  split at q <;> first | exact .inl (by assumption) | exact .inr (by assumption) | cases q
 ·have q:=h4 y hy
  rcases e with e | e <;> (simp only [e,Bool.or_eq_true,decide_eq_true_eq] at q; exact q)
end L2
namespace L2
open PySem PySem.Spec PyProof.Rows
section
variable {prog:Program} {w:World} {A:Around} {R:Result→Shared→Prop} {s:Shared} {elt t0 i0 t1 i1:Expr} {ifs0 ifs1:List Expr} {scope:Scope} {pos:Pos} {it acc:Value} {env:Env}
end
section
variable {X:Cx}
end
end L2
namespace L2
open PySem PySem.Spec PyProof.Rows
section
variable {κ:Type} [DecidableEq κ]
def valV (kvs:List (κ × V)) (k:κ):Option V:=(kvs.find? fun kv=>decide (kv.1=k)).map (·.2)
def putK (kvs:List (κ × V)) (k:κ) (v:V):List (κ × V):=
 if (kvs.any fun kv=>decide (kv.1=k))=true then kvs.map (fun kv=>if kv.1=k then (kv.1,v) else kv) else kvs ++ [(k,v)]
def dropK (kvs:List (κ × V)) (k:κ):List (κ × V):=kvs.filter fun kv=>decide (kv.1 ≠ k)
theorem valV_pos {p:κ × V} {r:List (κ × V)} {k:κ} (e:p.1=k):valV (p::r) k=some p.2:=by simp [valV,List.find?_cons,e]
theorem valV_neg {p:κ × V} {r:List (κ × V)} {k:κ} (e:¬ p.1=k):valV (p::r) k=valV r k:=by simp [valV,List.find?_cons,e]
theorem valV_any (k:κ):∀ kvs:List (κ × V),(kvs.any fun kv=>decide (kv.1=k))=(valV kvs k).isSome
 | []=>rfl
 |p::r=>by
  rw [List.any_cons]
  by_cases e:p.1=k
  ·simp only [valV_pos e,decide_eq_true e,Bool.true_or,Option.isSome_some]
  ·rw [valV_neg e,decide_eq_false e,Bool.false_or]; exact valV_any k r
theorem length_putK (kvs:List (κ × V)) (k:κ) (v:V):(putK kvs k v).length≤kvs.length + 1:=by
 unfold putK
 split
 ·rw [List.length_map]; omega
 ·rw [List.length_append,List.length_cons,List.length_nil]; omega
theorem putK_new {kvs:List (κ × V)} {k:κ} (v:V) (h:valV kvs k=none):putK kvs k v=kvs ++ [(k,v)]:=by
 unfold putK
 rw [valV_any,h]
 exact if_neg (by decide)
theorem RelO.isSome_eq {o:Option V} {u:Option Value} (r:RelO o u):o.isSome=u.isSome:=by
 cases o with
 |none=>cases u with
  |none=>rfl
  |some _=>exact (show False from r).elim
 |some _=>cases u with
  |none=>exact (show False from r).elim
  |some _=>rfl
theorem KV.val {kvs:List (κ × V)} {vs:List (κ × Value)} (r:KV kvs vs) (k:κ):RelO (valV kvs k) (valueAt vs k):=by
 unfold KV at r
 induction r with
 |nil=>exact True.intro
 | @cons p q ps qs h t ih=>
  obtain ⟨h1,h2⟩:=h
  by_cases e:p.1=k
  ·have e':q.1=k:=h1.symm.trans e
   have b:valueAt (q::qs) k=some q.2:=by simp [valueAt,List.find?_cons,e']
   rw [valV_pos e,b]; exact h2
  ·have e':¬ q.1=k:=fun z=>e (h1.trans z)
   have b:valueAt (q::qs) k=valueAt qs k:=by simp [valueAt,List.find?_cons,e']
   rw [valV_neg e,b]; exact ih
theorem KV.any {kvs:List (κ × V)} {vs:List (κ × Value)} (r:KV kvs vs) (k:κ):(kvs.any fun kv=>decide (kv.1=k))=vs.any fun kv=>decide (kv.1=k):=by
 unfold KV at r
 induction r with
 |nil=>rfl
 |cons h t ih=>rw [List.any_cons,List.any_cons,ih,h.1]
theorem KV.repl {kvs:List (κ × V)} {vs:List (κ × Value)} (r:KV kvs vs) (k:κ) {y:V} {u:Value} (ry:RelV y u) :
  KV (kvs.map fun kv=>if kv.1=k then (kv.1,y) else kv) (vs.map fun kv=>if kv.1=k then (kv.1,u) else kv):=by
 unfold KV at r ⊢
 induction r with
 |nil=>exact .nil
 | @cons p q ps qs h t ih=>
  rw [List.map_cons,List.map_cons]
  refine .cons ?_ ih
  obtain ⟨h1,h2⟩:=h
  by_cases e:p.1=k
  ·rw [if_pos e,if_pos (h1.symm.trans e)]; exact ⟨h1,ry⟩
  ·rw [if_neg e,if_neg (fun z=>e (h1.trans z))]; exact ⟨h1,h2⟩
theorem KV.put {kvs:List (κ × V)} {vs:List (κ × Value)} (r:KV kvs vs) (k:κ) {y:V} {u:Value} (ry:RelV y u):KV (putK kvs k y) (stored vs k u):=by
 unfold putK stored
 rw [r.any k]
 by_cases e:(vs.any fun kv=>decide (kv.1=k))=true
 ·rw [if_pos e,if_pos e]; exact r.repl k ry
 ·rw [if_neg e,if_neg e]; exact Paired.snoc r ⟨rfl,ry⟩
theorem KV.drop {kvs:List (κ × V)} {vs:List (κ × Value)} (r:KV kvs vs) (k:κ):KV (dropK kvs k) (without vs k):=by
 unfold KV at r ⊢
 unfold dropK without
 induction r with
 |nil=>exact .nil
 | @cons p q ps qs h t ih=>
  obtain ⟨h1,h2⟩:=h
  rw [List.filter_cons,List.filter_cons]
  by_cases e:p.1=k
  ·have a:¬ decide (p.1 ≠ k)=true:=by simp [e]
   have b:¬ decide (q.1 ≠ k)=true:=by simp [h1.symm.trans e]
   rw [if_neg a,if_neg b]; exact ih
  ·have e':¬ q.1=k:=fun z=>e (h1.trans z)
   have a:decide (p.1 ≠ k)=true:=by simp [e]
   have b:decide (q.1 ≠ k)=true:=by simp [e']
   rw [if_pos a,if_pos b]; exact .cons ⟨h1,h2⟩ ih
theorem KV.length {kvs:List (κ × V)} {vs:List (κ × Value)} (r:KV kvs vs):kvs.length=vs.length:=Paired.length r
theorem dropK_le (kvs:List (κ × V)) (k:κ):(dropK kvs k).length≤kvs.length:=List.length_filter_le _ _
end
theorem kV_is {P:Program} {w:World} {k:Key} {u:Value} (r:RelV (kV k) u):(mixKind P w).is k u=true:=by
 cases k with
 |inl i=>obtain ⟨t,e⟩:=(show ∃ t,u=Value.int i t from r); subst e; exact mixKind_int P w i t
 |inr x=>obtain ⟨t,e⟩:=(show ∃ t,u=Value.str x t from r); subst e; exact mixKind_str P w x t
theorem items_are {P:Program} {w:World}:∀ {ks:List Key} {us:List Value},Vals (ks.map kV) us→ItemsAre (mixKind P w) ks us
 | [],_,r=>by rw [List.map_nil] at r; cases r; exact .nil
 |k::ks,_,r=>by
  rw [List.map_cons] at r
  cases r with
  |cons h t=>exact .cons (kV_is h) (items_are t)
abbrev KT (H:Hp):List (List Key × V)→List (List Key × Addr × Value)→Prop:=Paired fun p q=>p.1=q.1∧H q.2.1=some (.tup (p.1.map kV))∧RelV p.2 q.2.2
theorem KT.val {H:Hp} {kvs:List (List Key × V)} {xs:List (List Key × Addr × Value)} (r:KT H kvs xs) (k:List Key):RelO (valV kvs k) ((atKey xs k).map (·.2)):=by
 induction r with
 |nil=>exact True.intro
 | @cons p q ps qs h t ih=>
  obtain ⟨h1,_,h2⟩:=h
  by_cases e:p.1=k
  ·have e':q.1=k:=h1.symm.trans e
   have b:atKey (q::qs) k=some q.2:=by simp [atKey,List.find?_cons,e']
   rw [valV_pos e,b]; exact h2
  ·have e':¬ q.1=k:=fun z=>e (h1.trans z)
   have b:atKey (q::qs) k=atKey qs k:=by simp [atKey,List.find?_cons,e']
   rw [valV_neg e,b]; exact ih
theorem KT.repl {H:Hp} {kvs:List (List Key × V)} {xs:List (List Key × Addr × Value)} (r:KT H kvs xs) (k:List Key) {y:V} {u:Value} (ry:RelV y u) :
  KT H (kvs.map fun kv=>if kv.1=k then (kv.1,y) else kv) (xs.map (putAt k u)):=by
 induction r with
 |nil=>exact .nil
 | @cons p q ps qs h t ih=>
  rw [List.map_cons,List.map_cons]
  refine .cons ?_ ih
  obtain ⟨h1,h2,h3⟩:=h
  unfold putAt
  by_cases e:p.1=k
  ·rw [if_pos e,if_pos (h1.symm.trans e)]; exact ⟨h1,h2,ry⟩
  ·rw [if_neg e,if_neg (fun z=>e (h1.trans z))]; exact ⟨h1,h2,h3⟩
theorem KT.put {H:Hp} {kvs:List (List Key × V)} {xs:List (List Key × Addr × Value)} (r:KT H kvs xs) (k:List Key) {b:Addr} {y:V} {u:Value} (hb:H b=some (.tup (k.map kV))) (ry:RelV y u) :
  KT H (putK kvs k y) (storedH xs k b u):=by
 have e:(kvs.any fun kv=>decide (kv.1=k))=(atKey xs k).isSome:=by
  rw [valV_any,(r.val k).isSome_eq,Option.isSome_map]
 unfold putK storedH
 rw [e]
 by_cases q:(atKey xs k).isSome=true
 ·rw [if_pos q,if_pos q]; exact r.repl k ry
 ·rw [if_neg q,if_neg q]; exact Paired.snoc r ⟨rfl,hb,ry⟩
theorem KT.keeps {H H':Hp} {kvs:List (List Key × V)} {xs:List (List Key × Addr × Value)} (r:KT H kvs xs) (ht:∀ b ys,H b=some (.tup ys)→H' b=some (.tup ys)):KT H' kvs xs:=
 Paired.mapP r fun _ _ z=>⟨z.1,ht _ _ z.2.1,z.2.2⟩
section
variable {P:Program} {w:World} {H:Hp} {h:Heap} {a:Addr}
theorem rd_of {u:HO} (ok:HOk P w H h) (e:Rd H a u):ObjOk P w H h a u:=e.ok ok
theorem dk_rd {kvs:List (Key × V)} (ok:HOk P w H h) (e:Rd H a (.dK kvs)):kvs.length≤sizeLine∧(a == sysModules)=false∧∃ vs,KV kvs vs∧h.DictOf (mixKind P w) a vs:=
 show ObjOk P w H h a (.dK kvs) from rd_of ok e
theorem dk_of {kvs:List (Key × V)} (ok:HOk P w H h) (e:H a=some (.dK kvs)):kvs.length≤sizeLine∧(a == sysModules)=false∧∃ vs,KV kvs vs∧h.DictOf (mixKind P w) a vs:=dk_rd ok (.inl e)
theorem key_of {ks:List Key} (ok:HOk P w H h) (e:H a=some (.tup (ks.map kV))):(tupleKind (mixKind P w)).is h ks a:=by
 obtain ⟨_,its,r,o,h1,h2,n,h3⟩:=(show ObjOk P w H h a (.tup (ks.map kV)) from ok a _ e)
 exact ⟨o,its.toArray,n,h1,h2,h3,by simpa using items_are r⟩
theorem dt_rd {kvs:List (List Key × V)} (ok:HOk P w H h) (e:Rd H a (.dT kvs)):kvs.length≤sizeLine∧(a == sysModules)=false∧
  ∃ xs,KT H kvs xs∧h.DictOfH (tupleKind (mixKind P w)) a xs:=by
 obtain ⟨z,y,xs,r,o,es,ep,h1,h2,h3,h4,h5⟩:=(show ObjOk P w H h a (.dT kvs) from rd_of ok e)
 refine ⟨z,y,xs,r,o,es,ep,h1,h2,h3,h4,fun x hx=>?_,h5⟩
 have all:∀ {l:List (List Key × V)} {m:List (List Key × Addr × Value)},KT H l m→∀ x ∈ m,(tupleKind (mixKind P w)).is h x.1 x.2.1:=by
  intro l m q
  induction q with
  |nil=>intro x hx; exact nomatch hx
  | @cons p q ps qs hq t ih=>
   intro x hx
   rcases List.mem_cons.mp hx with e | hx
   ·subst e
    exact key_of ok (by rw [← hq.1]; exact hq.2.1)
   ·exact ih x hx
 exact all r x hx
theorem dt_of {kvs:List (List Key × V)} (ok:HOk P w H h) (e:H a=some (.dT kvs)):kvs.length≤sizeLine∧(a == sysModules)=false∧
  ∃ xs,KT H kvs xs∧h.DictOfH (tupleKind (mixKind P w)) a xs:=dt_rd ok (.inl e)
end
def DGet (H:Hp) (a:Addr) (y:V) (r:Option V):Prop:=
 (∃ kvs k,Rd H a (.dK kvs)∧y=kV k∧r=valV kvs k)∨∃ kvs k b,Rd H a (.dT kvs)∧y=.ref b∧H b=some (.tup (k.map kV))∧r=valV kvs k
def DPut (H:Hp) (a:Addr) (y v:V) (H':Hp):Prop:=
 (∃ kvs k,H a=some (.dK kvs)∧y=kV k∧kvs.length < sizeLine∧H'=upd H a (.dK (putK kvs k v)))∨
 ∃ kvs k b,H a=some (.dT kvs)∧y=.ref b∧H b=some (.tup (k.map kV))∧kvs.length < sizeLine∧H'=upd H a (.dT (putK kvs k v))
theorem DGet.k {H:Hp} {a:Addr} {kvs:List (Key × V)} {k:Key} (e:H a=some (.dK kvs)):DGet H a (kV k) (valV kvs k):=.inl ⟨kvs,k,.inl e,rfl,rfl⟩
theorem DPut.k {H:Hp} {a:Addr} {kvs:List (Key × V)} {k:Key} {v:V} (e:H a=some (.dK kvs)) (hl:kvs.length < sizeLine):DPut H a (kV k) v (upd H a (.dK (putK kvs k v))):=.inl ⟨kvs,k,e,rfl,hl,rfl⟩
section
variable {X:Cx} {pins:List (Addr × Obj)} {σ:St} {H:Hp} {s:Shared} {a:Addr} {y v:V} {u r:Value} {o:Option V} {A:Around} {E:Value→Shared→Prop}
theorem Inv.big (I:Inv X pins σ H s):sysModules < s.heap.objs.size:=by
 have h:mainGlobals < s.heap.objs.size:=(I.mod.glob.keeps I.bk).lt
 exact Nat.lt_trans (by decide) h
theorem d_getItem {Q:Value→Shared→Prop} (hu:A.units + 1 < cLine) (I:Inv X pins σ H s) (g:DGet H a y (some v)) (ry:RelV y u) (h:∀ w' s',Inv X pins σ H s'→RelV v w'→Q w' s') :
  wpAny (model X.prog X.w) A (getItem (.ref a) u) Q E s:=by
 rcases g with ⟨kvs,k,e,ey,l⟩ | ⟨kvs,k,b,e,ey,eb,l⟩
 ·subst ey
  obtain ⟨z,hd,vs,rel,dd⟩:=dk_rd I.hok e
  obtain ⟨w',hw,rw'⟩:=RelO.some_of (v:=v) (o:=valueAt vs k) (by rw [l]; exact rel.val k)
  exact wpAny_getItem_of (kV_is ry) dd.mapOf hw (h w' _ (I.tok _) rw')
 ·subst ey
  cases (show u=Value.ref b from ry)
  obtain ⟨z,hd,xs,rel,dd⟩:=dt_rd I.hok e
  obtain ⟨w',hw,rw'⟩:=RelO.some_of (v:=v) (o:=(atKey xs k).map (·.2)) (by rw [l]; exact rel.val k)
  obtain ⟨p,hp,hp2⟩:=Option.map_eq_some_iff.mp hw
  refine wpAny_getItem_heap (tupleKind_room_in1 hu) (key_of I.hok eb) dd hp ?_
  rw [hp2]
  exact h w' _ (I.tok _) rw'
theorem d_in {Q:Value→Shared→Prop} (hu:A.units + 1 < cLine) (I:Inv X pins σ H s) (g:DGet H a y o) (ry:RelV y u) (h:∀ s',Inv X pins σ H s'→Q (.bool o.isSome) s') :
  wpAny (model X.prog X.w) A (compareOp .In u (.ref a)) Q E s:=by
 rcases g with ⟨kvs,k,e,ey,l⟩ | ⟨kvs,k,b,e,ey,eb,l⟩
 ·subst ey
  obtain ⟨z,hd,vs,rel,dd⟩:=dk_rd I.hok e
  refine wpAny_in_of (kV_is ry) hd dd.mapOf ?_
  rw [← (rel.val k).isSome_eq,← l]
  exact h _ (I.tok _)
 ·subst ey
  cases (show u=Value.ref b from ry)
  obtain ⟨z,hd,xs,rel,dd⟩:=dt_rd I.hok e
  refine wpAny_in_heap (tupleKind_room_in1 hu) (key_of I.hok eb) hd dd ?_
  have q:=(rel.val k).isSome_eq
  rw [Option.isSome_map] at q
  rw [← q,← l]
  exact h _ (I.tok _)
theorem d_notIn {Q:Value→Shared→Prop} (hu:A.units + 1 < cLine) (I:Inv X pins σ H s) (g:DGet H a y o) (ry:RelV y u) (h:∀ s',Inv X pins σ H s'→Q (.bool (!o.isSome)) s') :
  wpAny (model X.prog X.w) A (compareOp .NotIn u (.ref a)) Q E s:=by
 rcases g with ⟨kvs,k,e,ey,l⟩ | ⟨kvs,k,b,e,ey,eb,l⟩
 ·subst ey
  obtain ⟨z,hd,vs,rel,dd⟩:=dk_rd I.hok e
  refine wpAny_notIn_of (kV_is ry) hd dd.mapOf ?_
  rw [← (rel.val k).isSome_eq,← l]
  exact h _ (I.tok _)
 ·subst ey
  cases (show u=Value.ref b from ry)
  obtain ⟨z,hd,xs,rel,dd⟩:=dt_rd I.hok e
  refine wpAny_notIn_heap (tupleKind_room_in1 hu) (key_of I.hok eb) hd dd ?_
  have q:=(rel.val k).isSome_eq
  rw [Option.isSome_map] at q
  rw [← q,← l]
  exact h _ (I.tok _)
theorem d_write {h':Heap} {t':Nat} {ob:HO} (I:Inv X pins σ H s) (mu:Mut (H a)) (hs:Heap.SameBut a s.heap h') (he:∃ q,h'.get? a=some q) (new:ObjOk X.prog X.w (upd H a ob) h' a ob) :
  Inv X pins σ (upd H a ob) { s with heap:=h',toks:=t' }:=
 I.write (x:=a) (e:=a) mu (.inl rfl) (fun b q hb z=>(hs.2 b hb).trans z) he new
theorem dk_new {P:Program} {w:World} {H':Hp} {h':Heap} {kvs:List (Key × V)} {vs:List (Key × Value)} (z:kvs.length≤sizeLine) (hd:(a == sysModules)=false) (rel:KV kvs vs) (dd:h'.DictOf (mixKind P w) a vs) :
  ObjOk P w H' h' a (.dK kvs):=⟨z,hd,vs,rel,dd⟩
theorem d_setItem {H':Hp} {Q:Unit→Shared→Prop} (hu:A.units + 1 < cLine) (I:Inv X pins σ H s) (g:DPut H a y v H') (ry:RelV y u) (rv:RelV v r) (h:∀ s',Inv X pins σ H' s'→Q () s') :
  wpAny (model X.prog X.w) A (setItem (.ref a) u r) Q E s:=by
 rcases g with ⟨kvs,k,e,ey,l,eH⟩ | ⟨kvs,k,b,e,ey,eb,l,eH⟩
 ·subst ey eH
  obtain ⟨z,hd,vs,rel,dd⟩:=dk_of I.hok e
  have hz:vs.length≤sizeLine:=by rw [← rel.length]; exact z
  have hl:(putK kvs k v).length≤sizeLine:=by have:=length_putK kvs k v; omega
  refine wpAny_setItem_pairs (hsz:=hz) (kV_is ry) dd fun h' dd' hs=>h _ ?_
  have he:∃ q,h'.get? a=some q:=let ⟨q,_,_,hq,_⟩:=dd'; ⟨q,hq⟩
  exact d_write I (by rw [e]; exact True.intro) hs he (dk_new hl hd (rel.put k rv) dd')
 ·subst ey eH
  cases (show u=Value.ref b from ry)
  obtain ⟨z,hd,xs,rel,dd⟩:=dt_of I.hok e
  have hz:xs.length≤sizeLine:=by rw [← Paired.length rel]; exact z
  have hl:(putK kvs k v).length≤sizeLine:=by have:=length_putK kvs k v; omega
  refine wpAny_setItem_heap (hsz:=hz) (tupleKind_room_in1 hu) (key_of I.hok eb) dd fun h' dd' hs=>h _ ?_
  obtain ⟨q,es,ep,hq,h2,h3,h4,_,h5⟩:=dd'
  refine d_write I (by rw [e]; exact True.intro) hs ⟨q,hq⟩ ⟨hl,hd,_,(rel.put k eb rv).keeps fun c ys ec=>?_,q,es,ep,hq,h2,h3,h4,h5⟩
  rw [upd_ne (ne_of ec e (fun z=>nomatch z))]
  exact ec
end
section
variable {X:Cx} {pins:List (Addr × Obj)} {σ:St} {H:Hp} {s:Shared} {a:Addr} {kvs:List (Key × V)} {k:Key} {u:Value} {A:Around} {E:Value→Shared→Prop}
theorem d_pop {v:V} {more:List Value} {Q:Value→Shared→Prop} (I:Inv X pins σ H s) (e:H a=some (.dK kvs)) (ry:RelV (kV k) u) (l:valV kvs k=some v) (hm:more=[]∨∃ x,more=[x])
  (h:∀ w' s',Inv X pins σ (upd H a (.dK (dropK kvs k))) s'→RelV v w'→Q w' s'):wpAny (model X.prog X.w) A (call (.builtin "dict.pop") (.ref a::u::more)) Q E s:=by
 obtain ⟨z,hd,vs,rel,dd⟩:=dk_of I.hok e
 obtain ⟨w',hw,rw'⟩:=RelO.some_of (v:=v) (o:=valueAt vs k) (by rw [← l]; exact rel.val k)
 have hp:(keyPart u).isSome=true:=by
  cases k with
  |inl i=>obtain ⟨t,q⟩:=(show ∃ t,u=Value.int i t from ry); subst q; rfl
  |inr x=>obtain ⟨t,q⟩:=(show ∃ t,u=Value.str x t from ry); subst q; rfl
 have ha:argsOk "dict.pop" ⟨.ref a::u::more,[]⟩:=by
  rcases hm with q | ⟨x,q⟩
  ·subst q; exact PySem.F.args_dict_pop_2 _ _
  ·subst q; exact PySem.F.args_dict_pop_3 _ _ _
 refine call_meetsIn PySem.F.slot_dict_pop dd.typeIs PySem.F.entry_dict_pop ha (meets_dict_pop_there (mixKind X.prog X.w) a (kV_is ry) more hm hp)
  ⟨vs,w',dd,by rw [← rel.length]; exact z,hw,fun h' dd' hs=>h w' _ ?_ rw'⟩
 have he:∃ q,h'.get? a=some q:=let ⟨q,_,_,hq,_⟩:=dd'; ⟨q,hq⟩
 exact d_write I (by rw [e]; exact True.intro) hs he (dk_new (Nat.le_trans (dropK_le kvs k) z) hd (rel.drop k) dd')
end
def NoSl (i:Expr):Prop:=∀ ov iv,subscripted i false ov iv=operate [ov,iv] (getItem ov iv)
theorem subD_of {prog:Program} {w:World} {A:Around} {E:Value→Shared→Prop} {s:Shared} {env:Env} {value slice:Expr} {pos:Pos} {T id:String} {Q:Value→Shared→Prop}
  (hl:typeLookup (.type T) "__getitem__"=pure (some (.builtin id))) (hs:NoSl slice)
  (h:wpAny (model prog w) A (eval value env) (fun o s₁=>wpAny (model prog w) A (eval slice env) (fun i s₂=>s₂.TypeIs o T∧wpAny (model prog w) A (getItem o i) Q E s₂) E s₁) E s) :
  wpAny (model prog w) A (eval (.Subscript value slice pos) env) Q E s:=by
 refine Subscript_ (wpAny_mono h (fun o s₁ h₁=>wpAny_mono h₁ (fun i s₂ h₂=>?_) fun _ _ x=>x) fun _ _ x=>x)
 obtain ⟨hT,h₂⟩:=h₂
 unfold subscriptTail
 refine wpAny_bind ?_
 rw [getitemInPython_of_ne hT.not_modules]
 refine wpAny_bind (wpAny_specialOf hT hl ?_)
 have fin:wpAny (model prog w) A (subscripted slice false o i) (fun r s₃=>wpAny (model prog w) A (letTemporaryGo value o r >>= fun _=>pure r) Q E s₃) E s₂:=by
  rw [hs o i]
  exact wpAny_operating (wpAny_mono h₂ (fun r s₃ h₃=>wpAny_bind (wpAny_letTemporaryGo (wpAny_pure h₃))) fun _ _ x=>x)
 first
  |exact wpAny_pure (wpAny_bind fin)
  |exact wpAny_bind (wpAny_pure (wpAny_bind fin))
  |exact wpAny_bind fin
theorem dict_typeIs {X:Cx} {pins:List (Addr × Obj)} {σ:St} {H:Hp} {s:Shared} {a:Addr} {y:V} {o:Option V} (I:Inv X pins σ H s) (g:DGet H a y o):s.TypeIs (.ref a) "dict":=by
 rcases g with ⟨kvs,k,e,_,_⟩ | ⟨kvs,k,b,e,_,_,_⟩
 ·obtain ⟨_,_,vs,_,dd⟩:=dk_rd I.hok e
  exact dd.typeIs
 ·obtain ⟨_,_,xs,_,dd⟩:=dt_rd I.hok e
  exact dd.typeIs
def tDGet (td ty:TE):TE:=fun σ H Q=>td σ H fun x H1=>ty σ H1 fun y H2=>∃ a v,x=.ref a∧DGet H2 a y (some v)∧Q v H2
def tDIn (ty td:TE):TE:=fun σ H Q=>ty σ H fun y H1=>td σ H1 fun x H2=>∃ a o,x=.ref a∧DGet H2 a y o∧Q (.bl o.isSome) H2
def tDNotIn (ty td:TE):TE:=fun σ H Q=>ty σ H fun y H1=>td σ H1 fun x H2=>∃ a o,x=.ref a∧DGet H2 a y o∧Q (.bl (!o.isSome)) H2
def sDPut (td ty tv:TE):TS:=fun D σ H=>tv σ H fun v H1=>td σ H1 fun x H2=>ty σ H2 fun y H3=>∃ a H4,x=.ref a∧DPut H3 a y v H4∧D.nx σ H4
section
variable {X:Cx} {o i e value:Expr} {pos pos' tpos:Pos} {td ty tv:TE}
theorem pe_dget (hu:X.A.units + 1 < cLine) (ho:PE X o td) (hi:PE X i ty) (hs:NoSl i):PE X (.Subscript o i pos) (tDGet td ty):=by
 intro pins s σ H Q I h
 refine subD_of PySem.F.slot_dict_getitem.lookup hs (thn (ho pins s σ H _ I h) fun u s1 ⟨x,H1,I1,rx,q1⟩=>thn (hi pins s1 σ H1 _ I1 q1) fun iv s2 ⟨y,H2,I2,ry,a,v,ex,g,q2⟩=>?_)
 subst ex
 obtain rfl:u=Value.ref a:=rx
 exact ⟨dict_typeIs I2 g,d_getItem hu I2 g ry fun w' s3 I3 rw'=>⟨v,H2,I3,rw',q2⟩⟩
theorem pc_din (hu:X.A.units + 1 < cLine) (hi:PE X i ty) (ho:PE X o td):PC X .In i o (tDIn ty td):=by
 intro pins s σ H Q I h
 refine thn (hi pins s σ H _ I h) fun iv s1 ⟨y,H1,I1,ry,q1⟩=>thn (ho pins s1 σ H1 _ I1 q1) fun u s2 ⟨x,H2,I2,rx,a,ov,ex,g,q2⟩=>?_
 subst ex
 obtain rfl:u=Value.ref a:=rx
 exact d_in hu I2 g ry fun s3 I3=>⟨.bl ov.isSome,H2,I3,rfl,q2⟩
theorem pc_dnotin (hu:X.A.units + 1 < cLine) (hi:PE X i ty) (ho:PE X o td):PC X .NotIn i o (tDNotIn ty td):=by
 intro pins s σ H Q I h
 refine thn (hi pins s σ H _ I h) fun iv s1 ⟨y,H1,I1,ry,q1⟩=>thn (ho pins s1 σ H1 _ I1 q1) fun u s2 ⟨x,H2,I2,rx,a,ov,ex,g,q2⟩=>?_
 subst ex
 obtain rfl:u=Value.ref a:=rx
 exact d_notIn hu I2 g ry fun s3 I3=>⟨.bl (!ov.isSome),H2,I3,rfl,q2⟩
theorem ps_dput (hu:X.A.units + 1 < cLine) (ho:PE X o td) (hi:PE X i ty) (hv:PE X value tv) (hs:swapsWith value (some (.Subscript o i pos')) pos.line X.env=pure false) :
  PS X (.Assign [.Subscript o i pos'] value pos) (sDPut td ty tv):=by
 intro pins s σ H D I h
 refine wpAny_Assign_Subscript (thn (hv pins s σ H _ I h) fun r s1 ⟨v,H1,I1,rv,q1⟩=>thn (ho pins s1 σ H1 _ I1 q1) fun u s2 ⟨x,H2,I2,rx,q2⟩=>thn (hi pins s2 σ H2 _ I2 q2) fun iv s3 ⟨y,H3,I3,ry,a,H4,ex,g,q3⟩=>?_) hs
 subst ex
 obtain rfl:u=Value.ref a:=rx
 exact d_setItem hu I3 g ry rv fun s4 I4=>⟨σ,H4,I4,q3⟩
end
theorem dk_empty {P:Program} {w:World} {H:Hp} (h:Heap) (hb:sysModules < h.objs.size):ObjOk P w H (h.push { cls:=.type "dict",data:=.dict #[] }) h.objs.size (.dK []):=
 ⟨Nat.zero_le _,beq_eq_false_iff_ne.mpr (Ne.symm (Nat.ne_of_lt hb)),[],.nil,Heap.DictOf.new h⟩
def tDNewK:TE:=fun _ H Q=>∀ p,H p=none→Q (.ref p) (upd H p (.dK []))
section
variable {X:Cx} {pos:Pos}
theorem pe_dnewK:PE X (.Dict [] [] pos) tDNewK:=fun pins s σ H Q I h=>
 wpAny_Dict_empty ⟨.ref s.heap.objs.size,_,I.laid (a:=s.heap.objs.size) (o:=.dK []) (t':=s.toks) (fun _ _ q=>Heap.get?_push_of_some _ q) (Nat.le_refl _) (dk_empty s.heap I.big),rfl,h _ (I.hok.fresh (Nat.le_refl _))⟩
end
def tPairs:List (TE × TE)→St→Hp→(List (V × V)→Hp→Prop)→Prop
 | [],_,H,Q=>Q [] H
 |(tk,tv)::r,σ,H,Q=>tk σ H fun x H1=>tv σ H1 fun y H2=>tPairs r σ H2 fun ps H3=>Q ((x,y)::ps) H3
abbrev VV:List (V × V)→List (Value × Value)→Prop:=Paired fun p q=>RelV p.1 q.1∧RelV p.2 q.2
def PPs (X:Cx) (pos:Pos) (keys:List (Option Expr)) (values:List Expr) (trs:List (TE × TE)):Prop:=
 ∀ (pins:List (Addr × Obj)) (s:Shared) (σ:St) (H:Hp) (Q:List (V × V)→Hp→Prop),Inv X pins σ H s→tPairs trs σ H Q→
  wpAny (model X.prog X.w) X.A (evalPairs (pairTrees keys values X.env pos)) (fun vs s'=>∃ ps H',Inv X pins σ H' s'∧VV ps vs∧Q ps H') X.xe s
theorem pps_nil {X:Cx} {pos:Pos}:PPs X pos [] [] []:=fun pins s σ H Q I h=>pairTrees_nil_walk ⟨[],H,I,.nil,h⟩
theorem pps_cons {X:Cx} {pos:Pos} {k v:Expr} {ks:List (Option Expr)} {vs:List Expr} {tk tv:TE} {trs:List (TE × TE)} (hk:PE X k tk) (hv:PE X v tv) (hr:PPs X pos ks vs trs) :
  PPs X pos (some k::ks) (v::vs) ((tk,tv)::trs):=fun pins s σ H Q I h=>
 pairTrees_cons_walk (thn (hk pins s σ H _ I h) fun u s1 ⟨x,H1,I1,rx,q1⟩=>thn (hv pins s1 σ H1 _ I1 q1) fun w2 s2 ⟨y,H2,I2,ry,q2⟩=>
  thn (hr pins s2 σ H2 _ I2 q2) fun ws s3 ⟨ps,H3,I3,rel,q3⟩=>⟨(x,y)::ps,H3,I3,.cons ⟨rx,ry⟩ rel,q3⟩)
def mergeK (kvs more:List (Key × V)):List (Key × V):=more.foldl (fun acc kv=>putK acc kv.1 kv.2) kvs
theorem KV.merge:∀ {more:List (Key × V)} {rs:List (Key × Value)} {kvs:List (Key × V)} {vs:List (Key × Value)},KV more rs→KV kvs vs→KV (mergeK kvs more) (merged vs rs):=by
 intro more rs kvs vs r
 unfold KV at r
 induction r generalizing kvs vs with
 |nil=>intro q; exact q
 | @cons p q ps qs h t ih=>
  intro r0
  have e:KV (putK kvs p.1 p.2) (stored vs q.1 q.2):=by
   have:=r0.put p.1 h.2
   rw [← h.1]; exact this
  exact ih e
theorem length_mergeK:∀ (more kvs:List (Key × V)),(mergeK kvs more).length≤kvs.length + more.length
 | [],kvs=>by show kvs.length≤kvs.length + 0; omega
 |p::r,kvs=>by
  have h1:=length_mergeK r (putK kvs p.1 p.2)
  have h2:=length_putK kvs p.1 p.2
  show (mergeK (putK kvs p.1 p.2) r).length≤_
  rw [List.length_cons]; omega
theorem carries_of {P:Program} {w:World}:∀ {kvs:List (Key × V)} {ws:List (Value × Value)},VV (kvs.map fun kv=>(kV kv.1,kv.2)) ws→∃ rs,Carries (mixKind P w) ws rs∧KV kvs rs
 | [],_,r=>by rw [List.map_nil] at r; cases r; exact ⟨[],True.intro,.nil⟩
 |p::kvs,_,r=>by
  rw [List.map_cons] at r
  cases r with
  | @cons a b as bs h t=>
   obtain ⟨rs,c,q⟩:=carries_of (P:=P) (w:=w) t
   obtain ⟨b1,b2⟩:=b
   exact ⟨(p.1,b2)::rs,⟨kV_is h.1,rfl,c⟩,.cons ⟨rfl,h.2⟩ q⟩
def tDisp (trs:List (TE × TE)):TE:=fun σ H Q=>∀ p,H p=none→tPairs trs σ (upd H p (.dK [])) fun ps H2=>H2 p=some (.dK [])∧∃ kvs:List (Key × V),ps=kvs.map (fun kv=>(kV kv.1,kv.2))∧kvs.length≤15∧Q (.ref p) (upd H2 p (.dK (mergeK [] kvs)))
theorem pe_disp {X:Cx} {pos:Pos} {keys:List (Option Expr)} {values:List Expr} {trs:List (TE × TE)} (h:PPs X pos keys values trs) (hall:keys.all (·.isSome)=true) (hl:keys.length=values.length) (h0:keys ≠ [])
  (h15:keys.length≤15):PE X (.Dict keys values pos) (tDisp trs):=by
 intro pins s σ H Q I q
 have hn:=I.hok.fresh (Nat.le_refl s.heap.objs.size)
 have I1:=I.laid (a:=s.heap.objs.size) (o:=.dK []) (h':=s.heap.push { cls:=.type "dict",data:=.dict #[] }) (t':=s.toks) (fun _ _ q=>Heap.get?_push_of_some _ q) (Nat.le_refl _) (dk_empty s.heap I.big)
 refine wpAny_Dict_walk (knd:=mixKind X.prog X.w) hall hl h0 h15 (thn (h pins _ σ _ _ I1 (q _ hn)) fun ws s2 ⟨ps,H2,I2,rel,e,kvs,ep,lk,q2⟩=>?_)
 subst ep
 obtain ⟨rs,c,rk⟩:=carries_of (P:=X.prog) (w:=X.w) rel
 obtain ⟨z,hd,vs0,r0,dd⟩:=dk_of I2.hok e
 cases r0
 refine ⟨rs,c,dd,fun h' dd' hs=>⟨.ref s.heap.objs.size,_,?_,rfl,q2⟩⟩
 have hz:(mergeK [] kvs).length≤sizeLine:=by
  have h1:=length_mergeK kvs []
  rw [List.length_nil] at h1
  rw [sizeLine_eq]; omega
 have he:∃ q,h'.get? s.heap.objs.size=some q:=let ⟨q,_,_,hq,_⟩:=dd'; ⟨q,hq⟩
 exact d_write I2 (by rw [e]; exact True.intro) hs he (dk_new hz hd (rk.merge .nil) dd')
structure M1 (X:Cx) (o:Expr) (m:Str) (apos:Pos) (e:Expr) (cpos:Pos):Prop where
 base:attributeBase o m X.env (eval o X.env)=eval o X.env
 few:((backTo cpos (starEach [e] X.env)).all (fun x=>!x.1) && (backToKw cpos (keywordEach [] X.env)).all (fun x=>x.1.isSome)
  && decide (([e]:List Expr).length + ([]:List Keyword).length + (if ([]:List Keyword).isEmpty then 0 else 1) < 30))=true
 line:(apos.endLine == cpos.line)=true
 trees:backTo cpos (starEach [e] X.env)=[(false,eval e X.env)]
structure M2 (X:Cx) (o:Expr) (m:Str) (apos:Pos) (e f:Expr) (cpos:Pos):Prop where
 base:attributeBase o m X.env (eval o X.env)=eval o X.env
 few:((backTo cpos (starEach [e,f] X.env)).all (fun x=>!x.1) && (backToKw cpos (keywordEach [] X.env)).all (fun x=>x.1.isSome)
  && decide (([e,f]:List Expr).length + ([]:List Keyword).length + (if ([]:List Keyword).isEmpty then 0 else 1) < 30))=true
 line:(apos.endLine == cpos.line)=true
 trees:backTo cpos (starEach [e,f] X.env)=[(false,eval e X.env),(false,eval f X.env)]
def IsD (H:Hp) (a:Addr):Prop:=(∃ kvs,Rd H a (.dK kvs))∨∃ kvs,Rd H a (.dT kvs)
theorem isD_at {X:Cx} {pins:List (Addr × Obj)} {σ:St} {H:Hp} {s:Shared} {a:Addr} (I:Inv X pins σ H s) (d:IsD H a) :
  s.TypeIs (.ref a) "dict"∧(∀ b,Value.ref a=.ref b→∃ ob,s.heap.get? b=some ob∧ob.dict=none)∧(a == sysModules)=false:=by
 rcases d with ⟨kvs,e⟩ | ⟨kvs,e⟩
 ·obtain ⟨_,hd,vs,_,dd⟩:=dk_rd I.hok e
  refine ⟨dd.typeIs,fun b q=>?_,hd⟩
  cases q
  obtain ⟨ob,_,_,h1,h2,_⟩:=dd
  exact ⟨ob,h1,h2.2.1⟩
 ·obtain ⟨_,hd,xs,_,dd⟩:=dt_rd I.hok e
  refine ⟨dd.typeIs,fun b q=>?_,hd⟩
  cases q
  obtain ⟨ob,_,_,h1,h2,_⟩:=dd
  exact ⟨ob,h1,h2.2.1⟩
section
variable {X:Cx} {pins:List (Addr × Obj)} {σ:St} {H:Hp} {s:Shared} {a:Addr} {y d:V} {u r:Value} {o:Option V} {A:Around} {E:Value→Shared→Prop}
end
def tDPop1 (td ty:TE):TE:=fun σ H Q=>td σ H fun x H1=>∃ a,x=.ref a∧IsD H1 a∧ty σ H1 fun y H2=>∃ kvs k v,H2 a=some (.dK kvs)∧y=kV k∧valV kvs k=some v∧Q v (upd H2 a (.dK (dropK kvs k)))
section
variable {X:Cx} {o e f:Expr} {apos cpos:Pos} {td ty tx:TE}
theorem pe_dpop1 (ho:PE X o td) (he:PE X e ty) (m:M1 X o "pop" apos e cpos):PE X (.Call (.Attribute o "pop" apos) [e] [] cpos) (tDPop1 td ty):=by
 intro pins s σ H Q I h
 refine wpAny_Call_method m.base m.few m.line PySem.F.plainAttrs_dict PySem.F.slot_dict_pop PySem.F.type_dict_pop (thn (ho pins s σ H _ I h) fun u s1 ⟨x,H1,I1,rx,a,ex,d,q1⟩=>?_)
 subst ex
 obtain rfl:u=Value.ref a:=rx
 obtain ⟨t1,t2,_⟩:=isD_at I1 d
 refine ⟨t1,t2,?_⟩
 rw [m.trees]
 refine Calls.callWith_builtin rfl (Calls.evalArgs_plain (Calls.spliced_cons (thn (he pins s1 σ H1 _ I1 q1) fun iv s2 ⟨y,H2,I2,ry,kvs,k,v,ea,ey,l,q2⟩=>Calls.spliced_nil ?_)))
 subst ey
 exact d_pop I2 ea ry l (.inl rfl) fun w' s3 I3 rw'=>⟨v,_,I3,rw',q2⟩
end
section
variable {X:Cx} {pins:List (Addr × Obj)} {σ:St} {H:Hp} {s:Shared} {a:Addr} {kvs:List (Key × V)} {A:Around} {E:Value→Shared→Prop}
end
section
variable {X:Cx} {pins:List (Addr × Obj)} {σ:St} {H:Hp} {s:Shared} {a:Addr} {y:V} {u:Value} {A:Around} {E:Value→Shared→Prop}
end
end L2
namespace L2
open PySem PySem.Spec PyProof.Rows
section
variable {prog:Program} {w:World} {A:Around} {E:Value→Shared→Prop}
end
section
variable {X:Cx}
end
end L2
namespace L2
open PySem PySem.Spec PyProof.Rows
section
variable {X:Cx} {pins:List (Addr × Obj)} {σ:St} {H:Hp} {s:Shared} {h':Heap}
theorem Inv.turnedL {t':Nat} {ch:List Addr} (I:Inv X pins σ H s) (k:∀ b o,b ∉ ch→s.heap.get? b=some o→h'.get? b=some o) (hf:∀ b ∈ ch,FpOk X pins H b):Inv X pins σ H { s with heap:=h',toks:=t' }:=by
 have nit:∀ b u,H b=some u→b ∉ ch:=fun b u e z=>by
  have q:=(hf b z).1
  rw [q] at e; cases e
 refine I.step (g':=s.gens) (d':=s.drawn) (ch:=ch) (fun b hb=>⟨(hf b hb).2.2.2.1,(hf b hb).2.1,(hf b hb).2.2.2.2.1,(hf b hb).2.2.2.2.2⟩) (fun b o _ _ hc e _=>k b o hc e) (fun b o _ _ hc e _=>⟨o.slots,k b o hc e⟩)
  (fun _ _ _ _ n=>n) (fun b o hc e=>⟨o,k b o hc e⟩) (fun _ _ e=>e) (fun _ _ _ e=>e) (fun b ps e=>⟨#[],by rw [e]; simp⟩) (fun m hm=>?_) (fun b u e=>?_) I.bare
 ·obtain ⟨o,es,ep,ho,r⟩:=hm
  exact ⟨o,es,ep,k _ o (fun z=>(hf _ z).2.1 rfl) ho,r⟩
 ·refine (I.hok b u e).stay (fun c v hc q=>k c v ?_ q) (fun _ q=>q) fun _ _ q=>q
  rcases hc with z | z
  ·rw [z]; exact nit b u e
  ·exact nit c _ z
theorem Inv.turnedNew {t':Nat} {ch:List Addr} {T:Addr} {ob:HO} (I:Inv X pins σ H s) (k:∀ b o,b ∉ ch→s.heap.get? b=some o→h'.get? b=some o) (hf:∀ b ∈ ch,FpOk X pins H b) (hT:s.heap.objs.size≤T)
  (new:ObjOk X.prog X.w (upd H T ob) h' T ob):Inv X pins σ (upd H T ob) { s with heap:=h',toks:=t' }:=by
 have hn:H T=none:=I.hok.fresh hT
 have nit:∀ b u,H b=some u→b ∉ ch:=fun b u e z=>by
  have q:=(hf b z).1
  rw [q] at e; cases e
 refine I.step (g':=s.gens) (d':=s.drawn) (ch:=ch) (fun b hb=>⟨(hf b hb).2.2.2.1,(hf b hb).2.1,(hf b hb).2.2.2.2.1,(hf b hb).2.2.2.2.2⟩) (fun b o _ _ hc e _=>k b o hc e) (fun b o _ _ hc e _=>⟨o.slots,k b o hc e⟩)
  (fun b o _ e n=>?_) (fun b o hc e=>⟨o,k b o hc e⟩) (fun b xs e=>?_) (fun b o u e=>?_) (fun b ps e=>⟨#[],?_⟩) (fun m hm=>?_) (fun b u e=>?_) I.bare
 ·rw [upd_ne (Nat.ne_of_lt (Nat.lt_of_lt_of_le (Heap.lt_size e) hT))]; exact n
 ·rw [upd_ne (ne_of_none e hn)]; exact e
 ·rw [upd_ne (ne_of_none e hn)]; exact e
 ·rw [upd_ne (ne_of_none e hn),e]; simp
 ·obtain ⟨o,es,ep,ho,r⟩:=hm
  exact ⟨o,es,ep,k _ o (fun z=>(hf _ z).2.1 rfl) ho,r⟩
 ·by_cases hb:b=T
  ·subst hb
   rw [upd_same] at e
   cases e
   exact new
  ·rw [upd_ne hb] at e
   refine (I.hok b u e).stay (fun c v hc q=>k c v ?_ q) (fun c q=>by rw [upd_ne (ne_of_none q hn)]; exact q) fun c xs q=>by rw [upd_ne (ne_of_none q hn)]; exact q
   rcases hc with z | z
   ·rw [z]; exact nit b u e
   ·exact nit c _ z
theorem Inv.lock {d:Addr} {u:HO} (I:Inv X pins σ H s) (h:H d=some u) (mu:Mut (some u)):∃ od,Inv X pins σ (upd H d (.frz od u)) s:=by
 have x:=I.hok d u h
 have ex:∃ od,s.heap.get? d=some od:=by
  cases u with
  |lst xs=>obtain ⟨_,_,_,_,e⟩:=x; exact ⟨_,e⟩
  |dK kvs=>obtain ⟨_,_,_,_,o,_,_,e,_⟩:=x; exact ⟨o,e⟩
  |dT kvs=>obtain ⟨_,_,_,_,o,_,_,e,_⟩:=x; exact ⟨o,e⟩
  |set S n=>obtain ⟨o,_,_,_,e,_⟩:=x; exact ⟨o,e⟩
  |ins C dx fs=>obtain ⟨_,_,_,e,_⟩:=x; exact ⟨_,e⟩
  |ext φ=>obtain ⟨_,⟨_,e⟩,_⟩:=x; exact ⟨_,e⟩
  |_=>exact False.elim mu
 obtain ⟨od,e⟩:=ex
 have new:ObjOk X.prog X.w (upd H d (.frz od u)) s.heap d (.frz od u):=by
  refine ⟨e,x.stay (fun b v _ q=>q) (fun b q=>?_) fun b xs q=>?_⟩
  ·rw [upd_ne (fun z=>by rw [z,h] at q; cases q; exact mu)]; exact q
  ·rw [upd_ne (fun z=>by rw [z,h] at q; cases q; exact mu)]; exact q
 exact ⟨od,I.write (x:=d) (e:=d) (t':=s.toks) (h':=s.heap) (by rw [h]; exact mu) (.inl rfl) (fun b v _ q=>q) ⟨od,e⟩ new⟩
theorem Inv.nofrz {d:Addr} {u:HO} (I:Inv X pins σ H s) (h:H d=some u) (mu:Mut (some u)):∀ o' u',X.H_0 d ≠ some (.frz o' u'):=fun o' u' e=>by
 have q:=I.base.frzs d o' u' e
 rw [h] at q
 cases q
 exact mu
theorem Inv.unlock {d:Addr} {od:Obj} {u:HO} (I:Inv X pins σ H s) (h:H d=some (.frz od u)) (hn:∀ o' u',X.H_0 d ≠ some (.frz o' u')):Inv X pins σ (upd H d u) s:=by
 have neH:∀ b o,H b=some o→(∀ o' u',o ≠ .frz o' u')→b ≠ d:=fun b o e hne z=>by
  rw [z,h] at e
  cases e
  exact hne _ _ rfl
 have neN:∀ b,H b=none→b ≠ d:=fun b e z=>by rw [z,h] at e; cases e
 refine ⟨I.ok,I.os,I.bare,⟨I.base.keep,I.base.slot,fun b o e n hx=>?_,I.base.there,fun b xs e=>?_,fun b o x e=>?_,fun b ps e=>?_⟩,I.loc,I.cell,?_,fun x c e=>?_,fun p hp=>?_,fun b o e=>?_,I.len⟩
 ·rw [upd_ne (neN b (I.base.free b o e n hx))]; exact I.base.free b o e n hx
 ·have q:=I.base.tups b xs e
  rw [upd_ne (neH b _ q (fun _ _ z=>nomatch z))]; exact q
 ·have q:=I.base.frzs b o x e
  rw [upd_ne (fun z=>by rw [z] at e; exact hn _ _ e)]; exact q
 ·obtain ⟨m,q⟩:=I.base.tbls b ps e
  exact ⟨m,by rw [upd_ne (neH b _ q (fun _ _ z=>nomatch z))]; exact q⟩
 ·rw [upd_ne (neN _ I.free)]; exact I.free
 ·rw [upd_ne (neN c (I.freeC x c e))]; exact I.freeC x c e
 ·obtain ⟨e,n,r⟩:=I.pin p hp
  exact ⟨e,by rw [upd_ne (neN _ n)]; exact n,r⟩
 ·by_cases hb:b=d
  ·rw [hb,upd_same] at e
   cases e
   rw [hb]
   obtain ⟨_,x⟩:=I.hok d _ h
   exact x.stay (fun c v _ q=>q) (fun c q=>by rw [upd_ne (neH c _ q (fun _ _ z=>nomatch z))]; exact q) fun c xs q=>by rw [upd_ne (neH c _ q (fun _ _ z=>nomatch z))]; exact q
  ·rw [upd_ne hb] at e
   exact (I.hok b o e).stay (fun c v _ q=>q) (fun c q=>by rw [upd_ne (neH c _ q (fun _ _ z=>nomatch z))]; exact q) fun c xs q=>by rw [upd_ne (neH c _ q (fun _ _ z=>nomatch z))]; exact q
end
def tLock (t:TS):TS:=fun D σ H=>∃ d u,H d=some u∧Mut (some u)∧∀ od,t ⟨fun σ' H'=>H' d=some (.frz od u)∧D.nx σ' (upd H' d u),fun v H'=>H' d=some (.frz od u)∧D.rt v (upd H' d u),fun σ' H'=>H' d=some (.frz od u)∧D.bk σ' (upd H' d u),fun σ' H'=>H' d=some (.frz od u)∧D.ct σ' (upd H' d u)⟩ σ (upd H d (.frz od u))
def tLockE (t:TE):TE:=fun σ H Q=>∃ d u,H d=some u∧Mut (some u)∧∀ od,t σ (upd H d (.frz od u)) fun v H'=>H' d=some (.frz od u)∧Q v (upd H' d u)
section
variable {X:Cx}
theorem ps_lock {st:Stmt} {t:TS} (h:PS X st t):PS X st (tLock t):=by
 intro pins s σ H D I hw
 obtain ⟨d,u,hd,mu,hw⟩:=hw
 obtain ⟨od,I1⟩:=I.lock hd mu
 refine thn (h pins s σ _ _ I1 (hw od)) fun f s1 q=>?_
 cases f with
 |next=>obtain ⟨σ',H',I2,e,q⟩:=q; exact ⟨σ',_,I2.unlock e (I.nofrz hd mu),q⟩
 |brk=>obtain ⟨σ',H',I2,e,q⟩:=q; exact ⟨σ',_,I2.unlock e (I.nofrz hd mu),q⟩
 |cont=>obtain ⟨σ',H',I2,e,q⟩:=q; exact ⟨σ',_,I2.unlock e (I.nofrz hd mu),q⟩
 |ret v=>obtain ⟨x,σ',H',I2,r,e,q⟩:=q; exact ⟨x,σ',_,I2.unlock e (I.nofrz hd mu),r,q⟩
theorem pe_lock {e:Expr} {t:TE} (h:PE X e t):PE X e (tLockE t):=by
 intro pins s σ H Q I hw
 obtain ⟨d,u,hd,mu,hw⟩:=hw
 obtain ⟨od,I1⟩:=I.lock hd mu
 refine thn (h pins s σ _ _ I1 (hw od)) fun v s1 ⟨x,H1,I2,r,e2,q⟩=>?_
 exact ⟨x,_,I2.unlock e2 (I.nofrz hd mu),r,q⟩
theorem pi_one {tg:Expr} {pins:List (Addr × Obj)} {σ:St} {H:Hp} {s:Shared} {R:It→Hp→Prop} {J:It} {tn:Nat→Heap→Prop} {tk:Nat} (I:Inv X pins σ H s) (o:Obj)
  (T:Turn X.prog X.w X.K tg J [s.heap.objs.size] s.heap.objs.size tn) (st:tn 0 (s.heap.push o)) (q:R J H):PIE X pins σ tg R (.ref s.heap.objs.size) { s with heap:=s.heap.push o,toks:=tk }:=by
 refine ⟨s.heap.objs.size,[s.heap.objs.size],tn,J,H,rfl,I.kept fun b ob e=>Heap.get?_push_of_some _ e,T,st,fun b hb=>?_,q⟩
 have e:b=s.heap.objs.size:=by simpa using hb
 subst e
 exact I.fpOk (Nat.le_refl _) (I.hok.fresh (Nat.le_refl _))
end
section
variable {X:Cx} {tg:Expr}
end
section
variable {X:Cx} {tg:Expr}
end
section
variable {prog:Program} {w:World} {A:Around} {E:Value→Shared→Prop} {s:Shared}
theorem iter_keys {d:Addr} {o:Obj} {es:Array DictEntry} {ep:Nat} {Q:Value→Shared→Prop} (hd:(d == sysModules)=false) (ho:s.heap.get? d=some o) (hc:o.ExactDict) (hdat:o.data=.dict es ep)
  (hQ:Q (.ref s.heap.objs.size) { s with heap:=s.heap.push { cls:=.type "dict_keyiterator",data:=.fields #[.ref d,.int 0 0,.int es.size 0,.int ep 0] } }) :
  wpAny (model prog w) A (pyIter (.ref d)) Q E s:=by
 have hT:s.TypeIs (.ref d) "dict":=⟨o,ho,hc.1⟩
 refine wpAny_pyIter_slot hT F.slot_dict_iter (wpAny_call_entry F.slot_dict_iter hT F.entry_dict_iter ?_ (F.args_dict_iter_1 _))
 unfold Builtin.«dict.__iter__»
 refine wpAny_bind ?_
 unfold Builtin.Dict.dictSlotNone
 refine wpAny_bind (wpAny_notOrdered_dict hT ?_)
 show wpAny _ _ (pure (Value.ref d)) _ _ s
 refine wpAny_pure ?_
 show wpAny _ _ (Builtin.Dict.showsAll d >>= _) _ _ s
 unfold Builtin.Dict.showsAll
 rw [if_neg (by rw [hd]; exact Bool.false_ne_true)]
 refine wpAny_bind (wpAny_pure ?_)
 refine wpAny_bind (wpAny_dictEntries ho hdat ?_)
 refine wpAny_bind (wpAny_dictEpoch ho hdat ?_)
 refine wpAny_bind (wpAny_newObj_type (wpAny_pure ⟨_,rfl,"dict_keyiterator",_,⟨_,Heap.get?_push_size _ rfl,rfl⟩,F.slot_dict_keyiterator_next.lookup,?_⟩))
 simpa [rawInt] using hQ
theorem next_key_item {it d:Addr} {i n ep:Nat} {od:Obj} {es:Array DictEntry} {en:DictEntry} {Q:Option Value→Shared→Prop} (hit:s.heap.IsKeyIter it d i n ep) (hod:s.heap.get? d=some od) (hdd:od.data=.dict es ep)
  (hsz:es.size=n) (hx:es[i]?=some en) (hQ:∀ h',h'.IsKeyIter it d (i + 1) n ep→Heap.SameBut it s.heap h'→Q (some en.key) { s with heap:=h' }):wpAny (model prog w) A (pyNext (.ref it)) Q E s:=by
 obtain ⟨o,ho,hc,hd⟩:=id hit
 unfold pyNext
 refine wpAny_bind (wpAny_attempt (wpAny_callSpecial?_slot (name:=Str.ofString "__next__") hit.typeIs F.slot_dict_keyiterator_next
  (wpAny_call_entry F.slot_dict_keyiterator_next hit.typeIs F.entry_dict_keyiterator_next ?_ (F.args_dict_keyiterator_next_1 _))))
 refine wpAny_bind (wpAny_pure ?_)
 refine wpAny_bind ?_
 refine wpAny_bind ?_
 first | refine wpAny_bind (wpAny_typeNameOfWhole_keyiter hit.typeIs (wpAny_pure ?_)) | refine wpAny_bind (wpAny_typeNameOf_keyiter hit.typeIs (wpAny_pure ?_))
 refine wpAny_bind (wpAny_fieldsOf ho hd ?_)
 have hown:Builtin.Dict_items.ownsTuple "dict_keyiterator"=false:=by decide
 simp only [hown,Bool.false_eq_true,if_false]
 show wpAny _ _ (if (Value.ref d == Value.none)=true then _ else _) _ _ s
 rw [if_neg (show ¬ ((Value.ref d == Value.none)=true) from Bool.false_ne_true)]
 refine wpAny_bind (wpAny_pure ?_)
 refine wpAny_bind (wpAny_dictEntries hod hdd ?_)
 rw [if_neg (by rw [hsz]; simp)]
 refine wpAny_bind (wpAny_pure ?_)
 refine wpAny_bind (wpAny_dictEpoch hod hdd ?_)
 rw [if_neg (by simp)]
 refine wpAny_pure ?_
 obtain ⟨hlt',hen⟩:=Array.getElem?_eq_some_iff.mp hx
 simp only [show ¬ ((i:Int) < 0) from by omega,if_false,Int.toNat_natCast,Array.getElem?_eq_getElem hlt']
 refine wpAny_bind ?_
 first | refine wpAny_bind (wpAny_typeNameOfWhole_keyiter hit.typeIs (wpAny_pure ?_)) | refine wpAny_bind (wpAny_typeNameOf_keyiter hit.typeIs (wpAny_pure ?_))
 refine wpAny_bind (wpAny_isOneOf_keyiter hit.typeIs ?_)
 show wpAny _ _ (setField (.ref it) 1 (rawInt ((i:Int) + 1)) >>= _) _ _ s
 refine wpAny_bind (wpAny_setField ho hd (by simp) ?_)
 have hit':(s.heap.update it (Obj.mapFields (·.setIfInBounds 1 (rawInt ((i:Int) + 1))))).IsKeyIter it d (i + 1) n ep:=
  ⟨_,Heap.get?_update_self _ ho (Obj.isFreed_of_fields (Obj.data_mapFields hd _)),(Obj.cls_mapFields ..).trans hc,by rw [Obj.data_mapFields hd]; simp [rawInt]⟩
 refine wpAny_bind (wpAny_holding ?_)
 refine wpAny_bind (wpAny_isOneOf_keyiter (s:={ s with heap:=s.heap.update it (Obj.mapFields (·.setIfInBounds 1 (rawInt ((i:Int) + 1)))) }) hit'.typeIs ?_)
 show wpAny _ _ (pure es[i].key) _ _ _
 rw [hen]
 exact wpAny_pure (wpAny_pure ⟨_,rfl,wpAny_pure (hQ _ hit' (Heap.SameBut.update ..))⟩)
theorem next_key_end {it d:Addr} {i n ep:Nat} {od:Obj} {es:Array DictEntry} {Q:Option Value→Shared→Prop} (hh:A.handled=none) (hit:s.heap.IsKeyIter it d i n ep) (hod:s.heap.get? d=some od) (hdd:od.data=.dict es ep)
  (hsz:es.size=n) (hge:n≤i) (hQ:∀ h',Heap.ExtBut it s.heap h'→Q none { s with heap:=h' }):wpAny (model prog w) A (pyNext (.ref it)) Q E s:=by
 obtain ⟨o,ho,hc,hd⟩:=id hit
 unfold pyNext
 refine wpAny_bind (wpAny_attempt (wpAny_callSpecial?_slot (name:=Str.ofString "__next__") hit.typeIs F.slot_dict_keyiterator_next
  (wpAny_call_entry F.slot_dict_keyiterator_next hit.typeIs F.entry_dict_keyiterator_next ?_ (F.args_dict_keyiterator_next_1 _))))
 refine wpAny_bind (wpAny_pure ?_)
 refine wpAny_bind ?_
 refine wpAny_bind ?_
 first | refine wpAny_bind (wpAny_typeNameOfWhole_keyiter hit.typeIs (wpAny_pure ?_)) | refine wpAny_bind (wpAny_typeNameOf_keyiter hit.typeIs (wpAny_pure ?_))
 refine wpAny_bind (wpAny_fieldsOf ho hd ?_)
 have hown:Builtin.Dict_items.ownsTuple "dict_keyiterator"=false:=by decide
 simp only [hown,Bool.false_eq_true,if_false]
 show wpAny _ _ (if (Value.ref d == Value.none)=true then _ else _) _ _ s
 rw [if_neg (show ¬ ((Value.ref d == Value.none)=true) from Bool.false_ne_true)]
 refine wpAny_bind (wpAny_pure ?_)
 refine wpAny_bind (wpAny_dictEntries hod hdd ?_)
 rw [if_neg (by rw [hsz]; simp)]
 refine wpAny_bind (wpAny_pure ?_)
 refine wpAny_bind (wpAny_dictEpoch hod hdd ?_)
 rw [if_neg (by simp)]
 refine wpAny_pure ?_
 have hge':es.size≤i:=by rw [hsz]; exact hge
 simp only [show ¬ ((i:Int) < 0) from by omega,if_false,Int.toNat_natCast,Array.getElem?_eq_none hge']
 refine wpAny_bind ?_
 first | refine wpAny_bind (wpAny_typeNameOfWhole_keyiter hit.typeIs (wpAny_pure ?_)) | refine wpAny_bind (wpAny_typeNameOf_keyiter hit.typeIs (wpAny_pure ?_))
 show wpAny _ _ (setField (.ref it) 0 .none >>= _) _ _ s
 refine wpAny_bind (wpAny_setField ho hd (by simp) ?_)
 show wpAny _ _ (newExc (.type "StopIteration") [] >>= _) _ _ _
 refine wpAny_bind ?_
 simp only [newExc,newTuple]
 refine wpAny_bind (wpAny_newObj_type ?_ (by size_fits))
 refine wpAny_bind (m:=firstArgMember _ _) (wpAny_of_eq (a:=Value.none) (by first | rfl | (simp only [firstArgMember]; rfl)) ?_)
 refine wpAny_newObj_type ?_ (by size_fits)
 simp only [raiseNew]
 refine wpAny_bind (wpAny_handled ?_)
 rw [show A.in1.handled=none from hh]
 refine wpAny_bind (wpAny_pure (wpAny_throw ?_))
 refine wpAny_bind (wpAny_isInstance (T:="StopIteration") (b:=true) ⟨_,Heap.get?_push_size _ rfl,rfl⟩ isSubtype_stop ?_)
 exact wpAny_pure (hQ _ (((Heap.SameBut.update ..).extBut.push _).push _))
end
theorem kv_get {κ:Type} {kvs:List (κ × V)} {vs:List (κ × Value)} (h:KV kvs vs):∀ {i:Nat} {k:κ} {v:V},kvs[i]?=some (k,v)→∃ u,vs[i]?=some (k,u)∧RelV v u:=by
 unfold KV at h
 induction h with
 |nil=>intro i k v e; simp at e
 | @cons a b l₁ l₂ r t ih=>
  intro i k v e
  cases i with
  |zero=>
   simp only [List.getElem?_cons_zero,Option.some.injEq] at e
   subst e
   refine ⟨b.2,?_,r.2⟩
   simp only [List.getElem?_cons_zero]
   exact congrArg some (Prod.ext r.1.symm rfl)
  |succ j=>
   simp only [List.getElem?_cons_succ] at e ⊢
   exact ih e
theorem paired_get {α β:Type} {G:α→β→Prop} {l₁:List α} {l₂:List β} (h:Paired G l₁ l₂):∀ {i:Nat} {a:α},l₁[i]?=some a→∃ b,l₂[i]?=some b∧G a b:=by
 induction h with
 |nil=>intro i a e; simp at e
 | @cons a b l₁ l₂ r t ih=>
  intro i a' e
  cases i with
  |zero=>
   simp only [List.getElem?_cons_zero,Option.some.injEq] at e
   subst e
   exact ⟨b,rfl,r⟩
  |succ j=>
   simp only [List.getElem?_cons_succ] at e ⊢
   exact ih e
theorem relV_key {k:Key} {u:Value} (h:keyIs k u=true):RelV (kV k) u:=by
 rcases keyIs_shape h with ⟨i,t,rfl,rfl⟩ | ⟨x,t,rfl,rfl⟩
 ·exact ⟨t,rfl⟩
 ·exact ⟨t,rfl⟩
section
variable {X:Cx} {pins:List (Addr × Obj)} {σ:St} {H:Hp} {s:Shared} {d:Addr} {o:Obj}
theorem Inv.frzK {kvs:List (Key × V)} (I:Inv X pins σ H s) (h:H d=some (.frz o (.dK kvs))) :
  (d == sysModules)=false∧s.heap.get? d=some o∧o.ExactDict∧∃ (es:Array DictEntry) (ep:Nat) (vs:List (Key × Value)),o.data=.dict es ep∧es.size=kvs.length∧KV kvs vs∧s.heap.DictAt (mixKind X.prog X.w) d vs ep:=by
 obtain ⟨hd,z,hs,vs,kv,o',es,ep,ho,hx,hdt,r⟩:=I.hok d _ h
 rw [hd] at ho
 cases ho
 refine ⟨hs,hd,hx,es,ep,vs,hdt,?_,kv,o,es,hd,hx,hdt,r⟩
 have l1:=r.2.1.length
 have l2:kvs.length=vs.length:=Paired.length kv
 rw [Array.length_toList] at l1
 omega
theorem Inv.frzT {kvs:List (List Key × V)} (I:Inv X pins σ H s) (h:H d=some (.frz o (.dT kvs))) :
  (d == sysModules)=false∧s.heap.get? d=some o∧o.ExactDict∧∃ (es:Array DictEntry) (ep:Nat),o.data=.dict es ep∧es.size=kvs.length∧
   ∀ (i:Nat) (k:List Key) (v:V),kvs[i]?=some (k,v)→∃ (en:DictEntry) (q:Addr),es[i]?=some en∧en.key=.ref q∧H q=some (.tup (k.map kV)):=by
 obtain ⟨hd,z,hs,xs,pr,o',es,ep,ho,hx,hdt,he,_⟩:=I.hok d _ h
 rw [hd] at ho
 cases ho
 refine ⟨hs,hd,hx,es,ep,hdt,?_,fun i k v e=>?_⟩
 ·have l1:es.size=xs.length:=size_of_entries he
  have l2:kvs.length=xs.length:=Paired.length pr
  omega
 ·obtain ⟨b,hb,e1,e2,_⟩:=paired_get pr e
  have q:=entry_at he i
  rw [hb] at q
  exact ⟨_,b.2.1,q,rfl,e2⟩
end
def Itk (d:Addr) (o:Obj) (kvs:List (Key × V)):It:=
 ⟨fun i H=>H d=some (.frz o (.dK kvs))∧i < kvs.length,fun i H x H'=>H'=H∧∃ k v,kvs[i]?=some (k,v)∧x=kV k,fun i H=>H d=some (.frz o (.dK kvs))∧kvs.length≤i⟩
def Itkt (d:Addr) (o:Obj) (kvs:List (List Key × V)):It:=
 ⟨fun i H=>H d=some (.frz o (.dT kvs))∧i < kvs.length,fun i H x H'=>H'=H∧∃ (k:List Key) (v:V) (q:Addr),kvs[i]?=some (k,v)∧x=.ref q∧H q=some (.tup (k.map kV)),fun i H=>H d=some (.frz o (.dT kvs))∧kvs.length≤i⟩
def Itd (d:Addr) (o:Obj) (kvs:List (Key × V)):It:=
 ⟨fun i H=>H d=some (.frz o (.dK kvs))∧i < kvs.length,fun i H x H'=>H'=H∧∃ k,kvs[i]?=some (k,x),fun i H=>H d=some (.frz o (.dK kvs))∧kvs.length≤i⟩
def Iti (d:Addr) (o:Obj) (kvs:List (Key × V)):It:=
 ⟨fun i H=>H d=some (.frz o (.dK kvs))∧i < kvs.length,fun i H x H'=>∃ T k v,kvs[i]?=some (k,v)∧x=.ref T∧H T=none∧H'=upd H T (.tup [kV k,v]),fun i H=>H d=some (.frz o (.dK kvs))∧kvs.length≤i⟩
theorem dict_ep {o:Obj} {es es':Array DictEntry} {ep ep':Nat} (h:o.data=.dict es ep) (h':o.data=.dict es' ep'):es'=es∧ep'=ep:=by
 rw [h] at h'
 cases h'
 exact ⟨rfl,rfl⟩
section
variable {P:Program} {w:World} {K:PySem.W.Frag} {tg:Expr} {d:Addr} {o:Obj} {es:Array DictEntry} {ep:Nat}
theorem turn_keys {kvs:List (Key × V)} (it:Addr) (hod:o.data=.dict es ep):Turn P w K tg (Itk d o kvs) [it] it (fun i h=>h.IsKeyIter it d i kvs.length ep) where
 mem:=by simp
 obj:=fun i h st b hb=>by
  have e:b=it:=by simpa using hb
  subst e
  obtain ⟨oi,e,c,dd⟩:=st
  exact ⟨oi,e,fun v z=>by rw [dd] at z; cases z⟩
 keep:=fun i h h' st k=>st.at fun oi e=>k it (by simp) oi e
 item:=by
  intro X hP hw hK hc i pins s σ H E I hf st hg
  subst hP hw hK
  obtain ⟨hd,hi⟩:=hg
  obtain ⟨f0,f1,f2,f3,f4,f5⟩:=hf it (by simp)
  obtain ⟨hs,hgd,hx,es',ep',vs,hdt,hsz,kv,hm⟩:=I.frzK hd
  obtain ⟨rfl,rfl⟩:=dict_ep hod hdt
  obtain ⟨⟨k,v⟩,hkv⟩:∃ p,kvs[i]?=some p:=⟨kvs[i],List.getElem?_eq_getElem hi⟩
  obtain ⟨u,hu,ru⟩:=kv_get kv hkv
  have hl:kvs.length=vs.length:=Paired.length kv
  rw [hl] at st
  refine wpAny_pyNext_dict_item st hm hu fun key h' hkey st' sb=>?_
  have I1:Inv X pins σ H { s with heap:=h' }:=I.turned (t':=s.toks) (fun b ob hb e=>(sb.2 b hb).trans e) f0 f1 f3 f4 f5
  obtain ⟨oi,e,c,dd⟩:=id st'
  refine ⟨key,rfl,go_of (s:={ s with heap:=h' }) e c dd (by decide) ⟨kV k,H,I1,relV_key (show keyIs k key=true from hkey),⟨rfl,k,v,hkv,rfl⟩,?_,fun b hb=>(hf b hb).1⟩⟩
  show h'.IsKeyIter it d (i + 1) kvs.length _
  rw [hl]
  exact st'
 done:=by
  intro X hP hw hK hc i pins s σ H E I hf st hg
  subst hP hw hK
  obtain ⟨hd,hi⟩:=hg
  obtain ⟨f0,f1,f2,f3,f4,f5⟩:=hf it (by simp)
  obtain ⟨hs,hgd,hx,es',ep',vs,hdt,hsz,kv,hm⟩:=I.frzK hd
  obtain ⟨rfl,rfl⟩:=dict_ep hod hdt
  exact next_key_end (I.ok.hd hc) st hgd hdt hsz hi fun h' eb=>⟨rfl,I.turned (t':=s.toks) (fun b ob hb e=>eb b ob hb e) f0 f1 f3 f4 f5⟩
 self:=fun A i s Q E st h=>wpAny_pyIter_keyiter st h
theorem turn_keysT {kvs:List (List Key × V)} (it:Addr) (hod:o.data=.dict es ep):Turn P w K tg (Itkt d o kvs) [it] it (fun i h=>h.IsKeyIter it d i kvs.length ep) where
 mem:=by simp
 obj:=fun i h st b hb=>by
  have e:b=it:=by simpa using hb
  subst e
  obtain ⟨oi,e,c,dd⟩:=st
  exact ⟨oi,e,fun v z=>by rw [dd] at z; cases z⟩
 keep:=fun i h h' st k=>st.at fun oi e=>k it (by simp) oi e
 item:=by
  intro X hP hw hK hc i pins s σ H E I hf st hg
  subst hP hw hK
  obtain ⟨hd,hi⟩:=hg
  obtain ⟨f0,f1,f2,f3,f4,f5⟩:=hf it (by simp)
  obtain ⟨hs,hgd,hx,es',ep',hdt,hsz,ent⟩:=I.frzT hd
  obtain ⟨rfl,rfl⟩:=dict_ep hod hdt
  obtain ⟨⟨k,v⟩,hkv⟩:∃ p,kvs[i]?=some p:=⟨kvs[i],List.getElem?_eq_getElem hi⟩
  obtain ⟨en,q,hen,hkey,hq⟩:=ent i k v hkv
  refine next_key_item st hgd hdt hsz hen fun h' st' sb=>?_
  have I1:Inv X pins σ H { s with heap:=h' }:=I.turned (t':=s.toks) (fun b ob hb e=>(sb.2 b hb).trans e) f0 f1 f3 f4 f5
  obtain ⟨oi,e,c,dd⟩:=id st'
  exact ⟨en.key,rfl,go_of (s:={ s with heap:=h' }) e c dd (by decide) ⟨.ref q,H,I1,hkey,⟨rfl,k,v,q,hkv,rfl,hq⟩,st',fun b hb=>(hf b hb).1⟩⟩
 done:=by
  intro X hP hw hK hc i pins s σ H E I hf st hg
  subst hP hw hK
  obtain ⟨hd,hi⟩:=hg
  obtain ⟨f0,f1,f2,f3,f4,f5⟩:=hf it (by simp)
  obtain ⟨hs,hgd,hx,es',ep',hdt,hsz,ent⟩:=I.frzT hd
  obtain ⟨rfl,rfl⟩:=dict_ep hod hdt
  exact next_key_end (I.ok.hd hc) st hgd hdt hsz hi fun h' eb=>⟨rfl,I.turned (t':=s.toks) (fun b ob hb e=>eb b ob hb e) f0 f1 f3 f4 f5⟩
 self:=fun A i s Q E st h=>by
  refine wpAny_pyIter_slot st.typeIs F.slot_dict_keyiterator_iter (wpAny_call_entry F.slot_dict_keyiterator_iter st.typeIs F.entry_dict_keyiterator_iter ?_ (F.args_dict_keyiterator_iter_1 _))
  show wpAny _ _ (ret (.ref it)) _ _ s
  exact wpAny_pure ⟨_,rfl,"dict_keyiterator",_,st.typeIs,F.slot_dict_keyiterator_next.lookup,h⟩
theorem turn_vals {kvs:List (Key × V)} (it:Addr) (hod:o.data=.dict es ep):Turn P w K tg (Itd d o kvs) [it] it (fun i h=>h.IsValIter it d i kvs.length ep) where
 mem:=by simp
 obj:=fun i h st b hb=>by
  have e:b=it:=by simpa using hb
  subst e
  obtain ⟨oi,e,c,dd⟩:=st
  exact ⟨oi,e,fun v z=>by rw [dd] at z; cases z⟩
 keep:=fun i h h' st k=>st.at fun oi e=>k it (by simp) oi e
 item:=by
  intro X hP hw hK hc i pins s σ H E I hf st hg
  subst hP hw hK
  obtain ⟨hd,hi⟩:=hg
  obtain ⟨f0,f1,f2,f3,f4,f5⟩:=hf it (by simp)
  obtain ⟨hs,hgd,hx,es',ep',vs,hdt,hsz,kv,hm⟩:=I.frzK hd
  obtain ⟨rfl,rfl⟩:=dict_ep hod hdt
  obtain ⟨⟨k,v⟩,hkv⟩:∃ p,kvs[i]?=some p:=⟨kvs[i],List.getElem?_eq_getElem hi⟩
  obtain ⟨u,hu,ru⟩:=kv_get kv hkv
  have hl:kvs.length=vs.length:=Paired.length kv
  rw [hl] at st
  refine wpAny_pyNext_values_item st hm hu fun h' st' sb=>?_
  have I1:Inv X pins σ H { s with heap:=h' }:=I.turned (t':=s.toks) (fun b ob hb e=>(sb.2 b hb).trans e) f0 f1 f3 f4 f5
  obtain ⟨oi,e,c,dd⟩:=id st'
  refine ⟨u,rfl,go_of (s:={ s with heap:=h' }) e c dd (by decide) ⟨v,H,I1,ru,⟨rfl,k,hkv⟩,?_,fun b hb=>(hf b hb).1⟩⟩
  show h'.IsValIter it d (i + 1) kvs.length _
  rw [hl]
  exact st'
 done:=by
  intro X hP hw hK hc i pins s σ H E I hf st hg
  subst hP hw hK
  obtain ⟨hd,hi⟩:=hg
  obtain ⟨f0,f1,f2,f3,f4,f5⟩:=hf it (by simp)
  obtain ⟨hs,hgd,hx,es',ep',vs,hdt,hsz,kv,hm⟩:=I.frzK hd
  obtain ⟨rfl,rfl⟩:=dict_ep hod hdt
  have hl:kvs.length=vs.length:=Paired.length kv
  rw [hl] at st
  exact wpAny_pyNext_values_end (I.ok.hd hc) st hm (List.getElem?_eq_none (by omega)) fun h' eb=>⟨rfl,I.turned (t':=s.toks) (fun b ob hb e=>eb b ob hb e) f0 f1 f3 f4 f5⟩
 self:=fun A i s Q E st h=>wpAny_pyIter_valiter st h
theorem turn_items {kvs:List (Key × V)} {elts:List Expr} {kk:Nat} {tpos:Pos} (it:Addr) (hod:o.data=.dict es ep) :
  Turn P w K (.Tuple elts kk tpos) (Iti d o kvs) [it] it (fun i h=>∃ ok ov,IsItemIter h it d i kvs.length ep ok ov) where
 mem:=by simp
 obj:=fun i h st b hb=>by
  have e:b=it:=by simpa using hb
  subst e
  obtain ⟨ok,ov,e⟩:=st
  exact ⟨_,e,fun v z=>nomatch z⟩
 keep:=fun i h h' st k=>let ⟨ok,ov,e⟩:=st; ⟨ok,ov,k it (by simp) _ e⟩
 item:=by
  intro X hP hw hK hc i pins s σ H E I hf st hg
  subst hP hw hK
  obtain ⟨hd,hi⟩:=hg
  obtain ⟨hs,hgd,hx,es',ep',vs,hdt,hsz,kv,hm⟩:=I.frzK hd
  obtain ⟨rfl,rfl⟩:=dict_ep hod hdt
  obtain ⟨⟨k,v⟩,hkv⟩:∃ p,kvs[i]?=some p:=⟨kvs[i],List.getElem?_eq_getElem hi⟩
  obtain ⟨u,hu,ru⟩:=kv_get kv hkv
  have hl:kvs.length=vs.length:=Paired.length kv
  obtain ⟨ok,ov,he⟩:=st
  rw [hl] at he
  have hlt:it < s.heap.objs.size:=Heap.lt_size he
  refine wpAny_pyNext_items_item he hm hu fun key h' hkey ho hT hz hk=>?_
  refine ⟨_,rfl,wpAny_letOwnedTupleGo_items (s:={ s with heap:=h' }) ho fun h'' he' sb=>?_⟩
  have hT2:h''.get? s.heap.objs.size=some { cls:=.type "tuple",data:=.seq #[key,u] }:=(sb.2 _ (Nat.ne_of_gt hlt)).trans hT
  have new:ObjOk X.prog X.w (upd H s.heap.objs.size (.tup [kV k,v])) h'' s.heap.objs.size (.tup [kV k,v]):=
   ⟨by show 2≤sizeLine; decide,[key,u],.cons (relV_key (show keyIs k key=true from hkey)) (.cons ru .nil),⟨_,hT2,rfl,_,rfl⟩⟩
  have I1:Inv X pins σ (upd H s.heap.objs.size (.tup [kV k,v])) { s with heap:=h'' }:=
   I.turnedNew (t':=s.toks) (ch:=[it]) (fun b ob hb e=>(sb.2 b (by simpa using hb)).trans (hk b ob (by simpa using hb) e)) hf (Nat.le_refl _) new
  refine ⟨.ref s.heap.objs.size,_,I1,rfl,⟨_,k,v,hkv,rfl,I.hok.fresh (Nat.le_refl _),rfl⟩,⟨key,u,?_⟩,fun b hb=>?_⟩
  ·rw [hl]; exact he'
  ·have e:b=it:=by simpa using hb
   rw [e,upd_ne (Nat.ne_of_lt hlt)]
   exact (hf it (by simp)).1
 done:=by
  intro X hP hw hK hc i pins s σ H E I hf st hg
  subst hP hw hK
  obtain ⟨hd,hi⟩:=hg
  obtain ⟨f0,f1,f2,f3,f4,f5⟩:=hf it (by simp)
  obtain ⟨hs,hgd,hx,es',ep',vs,hdt,hsz,kv,hm⟩:=I.frzK hd
  obtain ⟨rfl,rfl⟩:=dict_ep hod hdt
  have hl:kvs.length=vs.length:=Paired.length kv
  obtain ⟨ok,ov,he⟩:=st
  rw [hl] at he
  exact wpAny_pyNext_items_end (I.ok.hd hc) he hm (List.getElem?_eq_none (by omega)) fun h' eb=>⟨rfl,I.turned (t':=s.toks) (fun b ob hb e=>eb b ob hb e) f0 f1 f3 f4 f5⟩
 self:=fun A i s Q E st h=>let ⟨_,_,e⟩:=st; PySem.W.kcp_self e h
end
def iKeys (td:TE):TI:=fun σ H R=>td σ H fun x H1=>∃ d o,x=.ref d∧((∃ kvs,H1 d=some (.frz o (.dK kvs))∧R (Itk d o kvs) H1)∨∃ kvs,H1 d=some (.frz o (.dT kvs))∧R (Itkt d o kvs) H1)
def iVals (td:TE):TI:=fun σ H R=>td σ H fun x H1=>∃ d o kvs,x=.ref d∧H1 d=some (.frz o (.dK kvs))∧R (Itd d o kvs) H1
def iItems (td:TE):TI:=fun σ H R=>td σ H fun x H1=>∃ d o kvs,x=.ref d∧H1 d=some (.frz o (.dK kvs))∧R (Iti d o kvs) H1
section
variable {X:Cx} {tg e:Expr} {td:TE} {apos cpos:Pos}
theorem pi_keys (he:PE X e td):PI X tg e (iKeys td):=by
 intro pins s σ H R I h
 refine thn (he pins s σ H _ I h) fun u s1 ⟨x,H1,I1,rx,d,o,ex,q⟩=>?_
 subst ex
 obtain rfl:u=Value.ref d:=rx
 rcases q with ⟨kvs,hd,q⟩ | ⟨kvs,hd,q⟩
 ·obtain ⟨hs,hgd,hx,es,ep,vs,hdt,hsz,kv,hm⟩:=I1.frzK hd
  refine iter_keys hs hgd hx hdt (pi_one (tk:=s1.toks) I1 _ (turn_keys _ hdt) ⟨_,Heap.get?_push_size _ rfl,rfl,?_⟩ q)
  rw [hsz] <;> rfl
 ·obtain ⟨hs,hgd,hx,es,ep,hdt,hsz,ent⟩:=I1.frzT hd
  refine iter_keys hs hgd hx hdt (pi_one (tk:=s1.toks) I1 _ (turn_keysT _ hdt) ⟨_,Heap.get?_push_size _ rfl,rfl,?_⟩ q)
  rw [hsz] <;> rfl
theorem pi_values (he:PE X e td) (hbase:attributeBase e "values" X.env (eval e X.env)=eval e X.env:=by rfl) (hline:(apos.endLine == cpos.line)=true:=by rfl):PI X tg (.Call (.Attribute e "values" apos) [] [] cpos) (iVals td):=by
 intro pins s σ H R I h
 refine wpAny_Call_method (T:="dict") (id:="dict.values") hbase rfl hline F.plainAttrs_dict F.slot_dict_values F.type_dict_values (thn (he pins s σ H _ I h) fun u s1 ⟨x,H1,I1,rx,d,o,kvs,ex,hd,q⟩=>?_)
 subst ex
 obtain rfl:u=Value.ref d:=rx
 obtain ⟨hs,hgd,hx,es,ep,vs,hdt,hsz,kv,hm⟩:=I1.frzK hd
 have hl:kvs.length=vs.length:=Paired.length kv
 refine ⟨hm.dictOf.typeIs,hm.dictOf.mapOf.noDict,?_⟩
 have I2:Inv X pins σ H1 { s1 with heap:=s1.heap.push { cls:=.type "dict_values",data:=.fields #[.ref d] } }:=I1.kept (t':=s1.toks) fun b ob q=>Heap.get?_push_of_some _ q
 have fin:wpAny (model X.prog X.w) X.A (pyIter (.ref s1.heap.objs.size)) (PIE X pins σ tg R) X.xe { s1 with heap:=s1.heap.push { cls:=.type "dict_values",data:=.fields #[.ref d] } }:=by
  refine wpAny_pyIter_values (d:=d) (knd:=mixKind X.prog X.w) ⟨_,Heap.get?_push_size _ rfl,rfl,rfl⟩ (hm.push _) (pi_one (tk:=s1.toks) I2 _ (turn_vals _ hdt) ⟨_,Heap.get?_push_size _ rfl,rfl,?_⟩ q)
  rw [hl] <;> rfl
 show wpAny _ _ (callWith cpos (.builtin "dict.values") [.ref d] [] []) _ X.xe s1
 exact method_meetsIn F.slot_dict_values F.entry_dict_values rfl (PySem.evalArgs_none ⟨rfl,hm.dictOf.typeIs,F.args_dict_values_1 _,_,meets_dict_values (mixKind X.prog X.w) d hs,⟨vs,hm.dictOf⟩,fin⟩)
theorem pi_items {elts:List Expr} {kk:Nat} {tpos:Pos} (he:PE X e td) (hbase:attributeBase e "items" X.env (eval e X.env)=eval e X.env:=by rfl) (hline:(apos.endLine == cpos.line)=true:=by rfl) :
  PI X (.Tuple elts kk tpos) (.Call (.Attribute e "items" apos) [] [] cpos) (iItems td):=by
 intro pins s σ H R I h
 refine wpAny_Call_method (T:="dict") (id:="dict.items") hbase rfl hline F.plainAttrs_dict F.slot_dict_items F.type_dict_items (thn (he pins s σ H _ I h) fun u s1 ⟨x,H1,I1,rx,d,o,kvs,ex,hd,q⟩=>?_)
 subst ex
 obtain rfl:u=Value.ref d:=rx
 obtain ⟨hs,hgd,hx,es,ep,vs,hdt,hsz,kv,hm⟩:=I1.frzK hd
 have hl:kvs.length=vs.length:=Paired.length kv
 refine ⟨hm.dictOf.typeIs,hm.dictOf.mapOf.noDict,?_⟩
 have I2:Inv X pins σ H1 { s1 with heap:=s1.heap.push { cls:=.type "dict_items",data:=.fields #[.ref d] } }:=I1.kept (t':=s1.toks) fun b ob q=>Heap.get?_push_of_some _ q
 have fin:wpAny (model X.prog X.w) X.A (pyIter (.ref s1.heap.objs.size)) (PIE X pins σ (.Tuple elts kk tpos) R) X.xe { s1 with heap:=s1.heap.push { cls:=.type "dict_items",data:=.fields #[.ref d] } }:=by
  refine wpAny_pyIter_items (d:=d) (knd:=mixKind X.prog X.w) ⟨_,Heap.get?_push_size _ rfl,rfl,rfl⟩ (hm.push _) (pi_one (tk:=s1.toks) I2 _ (turn_items _ hdt) ⟨.none,.none,?_⟩ q)
  rw [hl]
  exact Heap.get?_push_size _ rfl
 show wpAny _ _ (callWith cpos (.builtin "dict.items") [.ref d] [] []) _ X.xe s1
 exact method_meetsIn F.slot_dict_items F.entry_dict_items rfl (PySem.evalArgs_none ⟨rfl,hm.dictOf.typeIs,F.args_dict_items_1 _,_,meets_dict_items (mixKind X.prog X.w) d hs,⟨vs,hm.dictOf⟩,fin⟩)
end
def Ite (K:PySem.W.Frag) (a:Addr):It:=
 ⟨fun i H=>∃ (xs:List V) (x:V),SqL K H a xs∧xs[i]?=some x,fun i H v H'=>∃ T x,v=.ref T∧H T=none∧H'=upd H T (.tup [.int (i:Nat),x])∧∀ xs,SqL K H a xs→xs[i]?=some x,fun i H=>∃ xs:List V,SqL K H a xs∧xs.length≤i⟩
theorem turn_enum {P:Program} {w:World} {K:PySem.W.Frag} {elts:List Expr} {kk:Nat} {tpos:Pos} (a e it:Addr) :
  Turn P w K (.Tuple elts kk tpos) (Ite K a) [e,it] e (fun i h=>(∃ old,IsEnum h e it ((i:Nat):Int) old)∧h.IsListIter it a i∧e ≠ it) where
 mem:=by simp
 obj:=fun i h st b hb=>by
  obtain ⟨⟨old,he⟩,⟨o,ho,hc,hd⟩,_⟩:=st
  have e':b=e∨b=it:=by simpa using hb
  rcases e' with z | z
  ·rw [z]; exact ⟨_,he,fun v q=>nomatch q⟩
  ·rw [z]; exact ⟨o,ho,fun v q=>by rw [hd] at q; cases q⟩
 keep:=fun i h h' st k=>let ⟨⟨old,he⟩,hi,hne⟩:=st; ⟨⟨old,k e (by simp) _ he⟩,hi.at fun o q=>k it (by simp) o q,hne⟩
 item:=by
  intro X hP hw hK hc i pins s σ H E I hf st hg
  subst hP hw hK
  obtain ⟨⟨old,he⟩,hit,hne⟩:=st
  obtain ⟨xs,x,hq,hx⟩:=hg
  obtain ⟨its,rv,p,hz⟩:=I.list hq
  obtain ⟨u,hu,ru⟩:=rv.get hx
  have hel:e < s.heap.objs.size:=Heap.lt_size he
  have hil:it < s.heap.objs.size:=by obtain ⟨_,q,_⟩:=hit; exact Heap.lt_size q
  refine wpAny_pyNext_enum_item he hit p.isList (x:=u) (by simpa using hu) hne fun h' ho hit' hT hsz hk=>?_
  refine ⟨_,rfl,wpAny_letOwnedTupleGo_enum (s:={ s with heap:=h',toks:=s.toks + 1 }) ho fun h'' he' sb=>?_⟩
  have hT2:h''.get? s.heap.objs.size=some { cls:=.type "tuple",data:=.seq #[.int i s.toks,u] }:=(sb.2 _ (Nat.ne_of_gt hel)).trans hT
  have new:ObjOk X.prog X.w (upd H s.heap.objs.size (.tup [.int (i:Nat),x])) h'' s.heap.objs.size (.tup [.int (i:Nat),x]):=
   ⟨by show 2≤sizeLine; decide,[.int i s.toks,u],.cons ⟨_,rfl⟩ (.cons ru .nil),⟨_,hT2,rfl,_,rfl⟩⟩
  have I1:Inv X pins σ (upd H s.heap.objs.size (.tup [.int (i:Nat),x])) { s with heap:=h'',toks:=s.toks + 1 }:=
   I.turnedNew (ch:=[e,it]) (fun b ob hb q=>(sb.2 b (fun z=>hb (by simp [z]))).trans (hk b ob (fun z=>hb (by simp [z])) (fun z=>hb (by simp [z])) q)) hf (Nat.le_refl _) new
  refine ⟨.ref s.heap.objs.size,_,I1,rfl,⟨_,x,rfl,I.hok.fresh (Nat.le_refl _),rfl,fun ys hy=>by rw [I.list_inj hy hq]; exact hx⟩,⟨⟨u,?_⟩,hit'.at fun o q=>(sb.2 it (Ne.symm hne)).trans q,hne⟩,fun b hb=>?_⟩
  ·have e1:((i + 1:Nat):Int)=(i:Int) + 1:=by omega
   rw [e1]; exact he'
  ·have hb':b < s.heap.objs.size:=by
    have e':b=e∨b=it:=by simpa using hb
    rcases e' with z | z
    ·rw [z]; exact hel
    ·rw [z]; exact hil
   rw [upd_ne (Nat.ne_of_lt hb')]
   exact (hf b hb).1
 done:=by
  intro X hP hw hK hc i pins s σ H E I hf st hg
  subst hP hw hK
  obtain ⟨⟨old,he⟩,hit,hne⟩:=st
  obtain ⟨xs,hq,hx⟩:=hg
  obtain ⟨its,rv,p,hz⟩:=I.list hq
  obtain ⟨f0,f1,f2,f3,f4,f5⟩:=hf it (by simp)
  have hl:=rv.length
  exact wpAny_pyNext_enum_end (I.ok.hd hc) he hit p.isList (by simp; omega) fun h' eb=>⟨rfl,I.turned (t':=s.toks) (fun b o hb q=>eb b o hb q) f0 f1 f3 f4 f5⟩
 self:=fun A i s Q E st h=>let ⟨⟨_,he⟩,_⟩:=st; wpAny_pyIter_enum he h
def iEnum (K:PySem.W.Frag) (ta:TA):TI:=fun σ H R=>ta σ H fun vs H1=>∃ a xs,vs=[.ref a]∧SqL K H1 a xs∧R (Ite K a) H1
theorem pi_enum {X:Cx} {e:Expr} {ta:TA} {p pos tpos:Pos} {elts:List Expr} {kk:Nat} (hg:Gl X "enumerate") (hm:X.mg "enumerate"=none) (ha:PA X [e] ta) (hs:starEach [e] X.env=[(false,eval e X.env)]:=by rfl) :
  PI X (.Tuple elts kk tpos) (.Call (.Name "enumerate" p) [e] [] pos) (iEnum X.K ta):=by
 intro pins s σ H R I h
 refine Call_ (ld_blt I hg hm boot_enumerate (PyProof.Rows.callWith_type1 (thn (ha pos pins s σ H _ I h) fun us s1 ⟨vs,H1,I1,r1,q1⟩=>?_) hs rfl))
 obtain ⟨a,xs,ex,hq,q⟩:=q1
 subst ex
 cases r1 with
 |cons r rr=>
  cases rr
  cases r
  obtain ⟨its,rv,p',hz⟩:=I1.list hq
  refine call_enumerate_list p'.isList fun h' he hit hsz hk=>wpAny_pyIter_enum he ?_
  have I2:Inv X pins σ H1 { s1 with heap:=h' }:=I1.kept (t':=s1.toks) hk
  refine ⟨s1.heap.objs.size + 1,[s1.heap.objs.size + 1,s1.heap.objs.size],_,_,H1,rfl,I2,turn_enum a (s1.heap.objs.size + 1) s1.heap.objs.size,⟨⟨.none,he⟩,hit,Nat.succ_ne_self _⟩,fun b hb=>?_,q⟩
  have e':b=s1.heap.objs.size + 1∨b=s1.heap.objs.size:=by simpa using hb
  have hle:s1.heap.objs.size≤b:=by
   rcases e' with z | z
   ·rw [z]; exact Nat.le_add_right _ _
   ·rw [z]; exact Nat.le_refl _
  exact I1.fpOk hle (I1.hok.fresh hle)
theorem boot_zip5:bootBuiltins "zip"=some (.type "zip"):=by decide +kernel
def Itz (K:PySem.W.Frag) (a b:Addr):It:=
 ⟨fun i H=>∃ (xs ys:List V) (x y:V),SqL K H a xs∧SqL K H b ys∧xs[i]?=some x∧ys[i]?=some y,
  fun i H v H'=>∃ T x y,v=.ref T∧H T=none∧H'=upd H T (.tup [x,y])∧(∀ xs,SqL K H a xs→xs[i]?=some x)∧∀ ys,SqL K H b ys→ys[i]?=some y,
  fun i H=>∃ xs ys:List V,SqL K H a xs∧SqL K H b ys∧(xs.length≤i∨ys.length≤i)⟩
theorem turn_zip {P:Program} {w:World} {K:PySem.W.Frag} {elts:List Expr} {kk:Nat} {tpos:Pos} {a b z TI TO i1 i2:Addr} (D:ZipApart z TI TO i1 i2 a b) :
  Turn P w K (.Tuple elts kk tpos) (Itz K a b) [z,TI,TO,i1,i2] z (fun i h=>IsZip h z TI TO .none∧IsPair h TI (.ref i1) (.ref i2)∧(∃ x y,IsPair h TO x y)∧h.IsListIter i1 a i∧h.IsListIter i2 b i) where
 mem:=by simp
 obj:=fun i h st c hc=>by
  obtain ⟨hz,hTI,⟨x,y,hTO⟩,⟨o1,e1,_,d1⟩,⟨o2,e2,_,d2⟩⟩:=st
  have e':c=z∨c=TI∨c=TO∨c=i1∨c=i2:=by simpa using hc
  rcases e' with q | q | q | q | q
  ·rw [q]; exact ⟨_,hz,fun v q=>nomatch q⟩
  ·rw [q]; exact ⟨_,hTI,fun v q=>nomatch q⟩
  ·rw [q]; exact ⟨_,hTO,fun v q=>nomatch q⟩
  ·rw [q]; exact ⟨o1,e1,fun v q=>by rw [d1] at q; cases q⟩
  ·rw [q]; exact ⟨o2,e2,fun v q=>by rw [d2] at q; cases q⟩
 keep:=fun i h h' st k=>by
  obtain ⟨hz,hTI,⟨x,y,hTO⟩,h1,h2⟩:=st
  exact ⟨k z (by simp) _ hz,k TI (by simp) _ hTI,⟨x,y,k TO (by simp) _ hTO⟩,h1.at fun o q=>k i1 (by simp) o q,h2.at fun o q=>k i2 (by simp) o q⟩
 item:=by
  intro X hP hw hK hc i pins s σ H E I hf st hg
  subst hP hw hK
  obtain ⟨hz,hTI,⟨x0,y0,hTO⟩,h1,h2⟩:=st
  obtain ⟨xs,ys,x,y,hqx,hqy,hx,hy⟩:=hg
  obtain ⟨its,rv,p,_⟩:=I.list hqx
  obtain ⟨its2,rv2,p2,_⟩:=I.list hqy
  obtain ⟨u,hu,ru⟩:=rv.get hx
  obtain ⟨u2,hu2,ru2⟩:=rv2.get hy
  have hzl:z < s.heap.objs.size:=Heap.lt_size hz
  refine wpAny_pyNext_zip_item D hz hTI hTO h1 h2 p.isList p2.isList (x:=u) (y:=u2) (by simpa using hu) (by simpa using hu2) fun h' z' TO' h1' h2' hT hsz hk=>?_
  refine ⟨_,rfl,wpAny_letOwnedTupleGo_zip (s:={ s with heap:=h' }) z' fun h'' z'' sb=>?_⟩
  have hT2:h''.get? s.heap.objs.size=some { cls:=.type "tuple",data:=.seq #[u,u2] }:=(sb.2 _ (Nat.ne_of_gt hzl)).trans hT
  have new:ObjOk X.prog X.w (upd H s.heap.objs.size (.tup [x,y])) h'' s.heap.objs.size (.tup [x,y]):=
   ⟨by show 2≤sizeLine; decide,[u,u2],.cons ru (.cons ru2 .nil),⟨_,hT2,rfl,_,rfl⟩⟩
  have I1:Inv X pins σ (upd H s.heap.objs.size (.tup [x,y])) { s with heap:=h'' }:=
   I.turnedNew (t':=s.toks) (ch:=[z,TI,TO,i1,i2]) (fun c o hb q=>(sb.2 c (fun q'=>hb (by simp [q']))).trans (hk c o (fun q'=>hb (by simp [q'])) (fun q'=>hb (by simp [q'])) (fun q'=>hb (by simp [q'])) (fun q'=>hb (by simp [q'])) q)) hf (Nat.le_refl _) new
  refine ⟨.ref s.heap.objs.size,_,I1,rfl,⟨_,x,y,rfl,I.hok.fresh (Nat.le_refl _),rfl,fun l hl=>by rw [I.list_inj hl hqx]; exact hx,fun l hl=>by rw [I.list_inj hl hqy]; exact hy⟩,⟨z'',?_,⟨u,u2,?_⟩,?_,?_⟩,fun c hcm=>?_⟩
  ·exact (sb.2 _ D.TIz).trans (hk _ _ D.TIz D.TITO D.TIi1 D.TIi2 hTI)
  ·exact (sb.2 _ D.TOz).trans TO'
  ·exact h1'.at fun o q=>(sb.2 _ D.i1z).trans q
  ·exact h2'.at fun o q=>(sb.2 _ D.i2z).trans q
  ·have hlt:c < s.heap.objs.size:=by
    have e':c=z∨c=TI∨c=TO∨c=i1∨c=i2:=by simpa using hcm
    rcases e' with q | q | q | q | q
    ·rw [q]; exact hzl
    ·rw [q]; exact Heap.lt_size hTI
    ·rw [q]; exact Heap.lt_size hTO
    ·rw [q]; obtain ⟨_,e1,_⟩:=h1; exact Heap.lt_size e1
    ·rw [q]; obtain ⟨_,e2,_⟩:=h2; exact Heap.lt_size e2
   rw [upd_ne (Nat.ne_of_lt hlt)]
   exact (hf c hcm).1
 done:=by
  intro X hP hw hK hc i pins s σ H E I hf st hg
  subst hP hw hK
  obtain ⟨hz,hTI,⟨x0,y0,hTO⟩,h1,h2⟩:=st
  obtain ⟨xs,ys,hqx,hqy,hend⟩:=hg
  obtain ⟨its,rv,p,_⟩:=I.list hqx
  obtain ⟨its2,rv2,p2,_⟩:=I.list hqy
  have l1:=rv.length
  have l2:=rv2.length
  have he:its.toArray[i]?=none∨its2.toArray[i]?=none:=by
   rcases hend with q | q
   ·exact .inl (by simp; omega)
   ·exact .inr (by simp; omega)
  exact wpAny_pyNext_zip_end (I.ok.hd hc) D hz hTI hTO h1 h2 p.isList p2.isList he fun h' hk=>⟨rfl,I.turnedL (t':=s.toks) (ch:=[z,TI,TO,i1,i2]) (fun c o hb q=>
   hk c o (fun q'=>hb (by simp [q'])) (fun q'=>hb (by simp [q'])) (fun q'=>hb (by simp [q'])) (fun q'=>hb (by simp [q'])) q) hf⟩
 self:=fun A i s Q E st h=>wpAny_pyIter_zip st.1 h
def iZip (K:PySem.W.Frag) (ta:TA):TI:=fun σ H R=>ta σ H fun vs H1=>∃ a b xs ys,vs=[.ref a,.ref b]∧SqL K H1 a xs∧SqL K H1 b ys∧R (Itz K a b) H1
theorem pi_zip {X:Cx} {e e2:Expr} {ta:TA} {p pos tpos:Pos} {elts:List Expr} {kk:Nat} (hg:Gl X "zip") (hm:X.mg "zip"=none) (ha:PA X [e,e2] ta)
  (hs:starEach [e,e2] X.env=(false,eval e X.env)::starEach [e2] X.env:=by rfl) (hpl:(backTo pos (starEach [e2] X.env)).any (·.1)=false:=by rfl) :
  PI X (.Tuple elts kk tpos) (.Call (.Name "zip" p) [e,e2] [] pos) (iZip X.K ta):=by
 intro pins s σ H R I h
 refine Call_ (ld_blt I hg hm boot_zip5 (PyProof.Rows.callWith_type1 (thn (ha pos pins s σ H _ I h) fun us s1 ⟨vs,H1,I1,r1,q1⟩=>?_) hs hpl))
 obtain ⟨a,b,xs,ys,ex,hqx,hqy,q⟩:=q1
 subst ex
 cases r1 with
 |cons r rr=>
  cases rr with
  |cons r' rr=>
   cases rr
   cases r
   cases r'
   obtain ⟨its,rv,p1,_⟩:=I1.list hqx
   obtain ⟨its2,rv2,p2,_⟩:=I1.list hqy
   have la:a < s1.heap.objs.size:=p1.lt
   have lb:b < s1.heap.objs.size:=p2.lt
   refine call_zip_2 p1.isList p2.isList fun h' hz hTI hTO h1 h2 hsz hk=>wpAny_pyIter_zip hz ?_
   have I2:Inv X pins σ H1 { s1 with heap:=h' }:=I1.kept (t':=s1.toks) hk
   refine ⟨s1.heap.objs.size + 4,[s1.heap.objs.size + 4,s1.heap.objs.size + 2,s1.heap.objs.size + 3,s1.heap.objs.size,s1.heap.objs.size + 1],_,_,H1,rfl,I2,turn_zip (PySem.W.ktu_apart s1.heap.objs.size a b la lb),⟨hz,hTI,⟨_,_,hTO⟩,h1,h2⟩,fun c hcm=>?_,q⟩
   have e':c=s1.heap.objs.size + 4∨c=s1.heap.objs.size + 2∨c=s1.heap.objs.size + 3∨c=s1.heap.objs.size∨c=s1.heap.objs.size + 1:=by simpa using hcm
   have hle:s1.heap.objs.size≤c:=by
    rcases e' with z | z | z | z | z
    ·rw [z]; exact Nat.le_add_right _ _
    ·rw [z]; exact Nat.le_add_right _ _
    ·rw [z]; exact Nat.le_add_right _ _
    ·rw [z]; exact Nat.le_refl _
    ·rw [z]; exact Nat.le_add_right _ _
   exact I1.fpOk hle (I1.hok.fresh hle)
end L2
section
namespace Bits
open PySem PyProof.Rows
theorem natCast_mul_pow (m k:Nat):(m:Int) * 2 ^ k=((m * 2 ^ k:Nat):Int):=by
 rw [two_pow_cast]
 first
  |exact (Int.natCast_mul _ _).symm
  |simp
theorem nat_xor_add_and (m:Nat):∀ n:Nat,(m ^^^ n) + 2 * (m &&& n)=m + n:=by
 induction m using Nat.strongRecOn with
 |_ m ih=>
  intro n
  by_cases h0:m=0
  ·subst h0
   simp
  ·have ih':=ih (m / 2) (by omega) (n / 2)
   rw [← Nat.xor_div_two,← Nat.and_div_two] at ih'
   have o1:=@Nat.xor_mod_two_eq_one m n
   have a1:=@Nat.and_mod_two_eq_one m n
   omega
theorem bitXor_pp {x y:Int} (hx:0≤x) (hy:0≤y):Builtin.bitXor x y=((x.toNat ^^^ y.toNat:Nat):Int):=by
 have e:=nat_xor_add_and x.toNat y.toNat
 rw [bitXor_and,bitAnd_pp hx hy]
 omega
theorem bitOr_pp {x y:Int} (hx:0≤x) (hy:0≤y):Builtin.bitOr x y=((x.toNat ||| y.toNat:Nat):Int):=by
 have e:=nat_or_add_and x.toNat y.toNat
 rw [bitOr_and,bitAnd_pp hx hy]
 omega
end Bits
end
section
namespace TL
open PySem PySem.Builtin PySem.Builtin.Str PySem.StrLaws
end TL
end
namespace L2
open PySem PySem.Spec PyProof.Rows
section
variable {X:Cx} {pins:List (Addr × Obj)} {σ:St} {H:Hp} {s:Shared} {Q:VK}
end
section
variable {X:Cx}
end
section
variable {X:Cx} {o e:Expr} {to te:TE}
end
end L2
namespace L2
open PySem PySem.Spec PyProof.Rows
section
variable {X:Cx}
end
end L2
namespace Att
open PySem PySem.W PySem.Calls PyProof.Rows
section
variable {prog:Program} {w:World} {A:Around} {E:Value→Shared→Prop} {s:Shared} {K:Frag}
end
end Att
namespace L2
open PySem PySem.Spec PyProof.Rows
end L2
namespace L2
open PySem PySem.Spec PyProof.Rows
end L2
namespace L2
open PySem PySem.Spec PyProof.Rows
abbrev CX0:CXT:=fun _ _ _ _ _ _=>False
abbrev E0:XK:=fun _ _ _=>False
theorem pass0 {X:Cx}:Passes CX0 X E0:=fun _ _ _ _ _ _ _ h=>h.elim
structure Fun (K:PySem.W.Frag) (x qual:Str) (st:Stmt) (f:Addr) (fd:FuncData):Prop where
 ex:∃ (oc:Value) (od:Option Addr) (kV doc pm:Value) (an:Option Addr) (cdv ct:Value) (osl:Array (Option Value)),
  fd=PySem.W.fnOf x qual (defArgs st) (defBody st) (defScope st) .none kV doc pm an cdv ct∧K.lookup f=some ⟨oc,od,.func fd,osl⟩∧PySem.W.codeIn K cdv qual=true
 kp:PySem.W.keepIn K (.ref f)=true
section
variable {P:Program} {w:World} {K:PySem.W.Frag} {mg:Str→Option Value} {base:Heap}
theorem Fun.ok {x qual:Str} {st:Stmt} {f:Addr} {fd:FuncData} {N ps:List Str} {k:Nat} {sp:Sp} (F:Fun K x qual st f fd) (S:FnScope N ps (defScope st)) (len:∀ vs H Q E,sp vs H Q E→vs.length=ps.length)
  (hbody:∀ (cdv:Value) (A:Around) (outer:List Env) (s:Shared) (H:Hp) (vs:List V) (Q:VK) (E:XK),Room k (A.deeper (envOfC qual (defScope st) s.heap.objs.size f cdv))→sp vs H Q E→
   ∃ t,PSs (cxOf CX0 P w K mg base N qual (defScope st) f cdv A outer s H E).nox (defBody st) t∧t { nx:=fun _ H'=>Q .non H',rt:=Q } (start N vs) H):FnOk P w K mg base CX0 (k + 1) f fd ps sp:=by
 obtain ⟨oc,od,kV,doc,pm,an,cdv,ct,osl,rfl,lk,hcd⟩:=F.ex
 refine fn_of lk hcd S len fun A outer s H vs Q E hr hsp=>?_
 obtain ⟨t,h,q⟩:=hbody cdv A outer s H vs Q E hr hsp
 exact ⟨t,h.nox,q⟩
theorem Fun.binds {x qual:Str} {st:Stmt} {f:Addr} {fd:FuncData} {ps:List Str} (F:Fun K x qual st f fd)
  (h:∀ (kV doc pm:Value) (an:Option Addr) (cdv ct:Value) (us:List Value),us.length=ps.length→bindArgs (PySem.W.fnOf x qual (defArgs st) (defBody st) (defScope st) .none kV doc pm an cdv ct) ⟨us,[]⟩=pure (ps.zip us)):Binds K fd ps []:=by
 obtain ⟨oc,od,kV,doc,pm,an,cdv,ct,osl,rfl,lk,hcd⟩:=F.ex
 exact .all (h kV doc pm an cdv ct)
theorem fun_mk {x qual:Str} {st:Stmt} {f:Addr} {oc:Value} {od an:Option Addr} {osl:Array (Option Value)} {kV doc pm cdv ct:Value} (l:K.lookup f=some ⟨oc,od,.func (PySem.W.fnOf x qual (defArgs st) (defBody st) (defScope st) .none kV doc pm an cdv ct),osl⟩)
  (c:PySem.W.codeIn K cdv qual=true) (k:PySem.W.keepIn K (.ref f)=true):Fun K x qual st f (PySem.W.fnOf x qual (defArgs st) (defBody st) (defScope st) .none kV doc pm an cdv ct):=⟨⟨oc,od,kV,doc,pm,an,cdv,ct,osl,rfl,l,c⟩,k⟩
end
theorem hu_of {A:Around} {k:Nat} (hr:Room k A):A.units + 1 < cLine:=Nat.lt_of_le_of_lt (Nat.add_le_add_left (by decide:1≤64) _) hr.units
section
variable {X:Cx}
theorem pv (i:Nat) {x:Str} {pos:Pos} (hN:X.N[i]?=some x:=by rfl) (hv:Vis X.env.scope x:=by first | exact Or.inl rfl | exact Or.inr (Or.inl rfl) | exact Or.inr (Or.inr rfl)) (hd:(x == ("__debug__":Str))=false:=by decide)
  (hcd:(x == ("__classdict__":Str))=false:=by decide):PE X (.Name x pos) (tVar i):=pe_var hN hv hd hcd
end
theorem iteF {A B:Prop} (h:B):if false=true then A else B:=by
 rw [if_neg Bool.false_ne_true]
 exact h
theorem iteT {A B:Prop} (h:A):if true=true then A else B:=by
 rw [if_pos rfl]
 exact h
theorem ite2 {c A B:Prop} [Decidable c] (h1:c→A) (h2:¬ c→B):if c then A else B:=by
 by_cases h:c
 ·rw [if_pos h]
  exact h1 h
 ·rw [if_neg h]
  exact h2 h
def Same (H H':Hp):Prop:=∀ b o,H b=some o→H' b=some o
theorem Same.refl (H:Hp):Same H H:=fun _ _ h=>h
theorem Same.trans {H H1 H2:Hp} (a:Same H H1) (b:Same H1 H2):Same H H2:=fun c o h=>b c o (a c o h)
theorem Same.free {H H':Hp} (e:Same H H') {l:Addr} (h:H' l=Option.none):H l=Option.none:=by
 cases q:H l with
 |none=>rfl
 |some o=>
  rw [e l o q] at h
  cases h
theorem Same.seq {K:PySem.W.Frag} {H H':Hp} {a:Addr} {xs:List V} (e:Same H H') (h:SqL K H a xs):SqL K H' a xs:=by
 rcases h with (h | ⟨o,h⟩) | h
 ·exact .inl (.inl (e _ _ h))
 ·exact .inl (.inr ⟨o,e _ _ h⟩)
 ·exact .inr h
section
variable {κ:Type} [DecidableEq κ]
theorem nd_snoc:∀ {l:List κ} {k:κ},l.Nodup→¬ k ∈ l→(l ++ [k]).Nodup
 | [],k,_,_=>by simp
 |a::r,k,h,hk=>by
  obtain ⟨h1,h2⟩:=List.nodup_cons.mp h
  show (a::(r ++ [k])).Nodup
  refine List.nodup_cons.mpr ⟨fun m=>?_,nd_snoc h2 fun m=>hk (List.mem_cons.mpr (Or.inr m))⟩
  rcases List.mem_append.mp m with q | q
  ·exact h1 q
  ·exact hk (List.mem_cons.mpr (Or.inl (List.mem_singleton.mp q).symm))
theorem dropK_pos {p:κ × V} {r:List (κ × V)} {k:κ} (e:p.1=k):dropK (p::r) k=dropK r k:=by
 unfold dropK
 rw [List.filter_cons,if_neg (by simp [e])]
theorem dropK_neg {p:κ × V} {r:List (κ × V)} {k:κ} (e:¬ p.1=k):dropK (p::r) k=p::dropK r k:=by
 unfold dropK
 rw [List.filter_cons,if_pos (by simp [e])]
end
theorem at_of {xs:List V} {z:Int} {j:Nat} {v:V} (e:z=(j:Int)) (h:xs[j]?=some v):atI xs z=some v:=by
 rw [e]
 exact atI_nat h
theorem nd_ix {α:Type} {l:List α} (hN:l.Nodup) {i j:Nat} {x:α} (a:l[i]?=some x) (b:l[j]?=some x):i=j:=by
 obtain ⟨h1,e1⟩:=List.getElem?_eq_some_iff.mp a
 obtain ⟨h2,e2⟩:=List.getElem?_eq_some_iff.mp b
 exact (List.getElem_inj hN).mp (e1.trans e2.symm)
theorem Same.made {H H1:Hp} {x dx C:Addr} (nx:H x=Option.none) (nd:H dx=Option.none) (k:∀ b o,(upd (upd H dx (.own x)) x (.ins C dx [])) b=some o→b ≠ x→H1 b=some o):Same H H1:=fun b o e=>
 k b o (by rw [upd_ne (ne_of_none e nx),upd_ne (ne_of_none e nd)]; exact e) (ne_of_none e nx)
end L2
namespace L2
open PySem PySem.Spec PyProof.Rows
open PySem.W (WData Codec OpenSpec Well WellAll ReadsW ReadsAllW)
mutual
inductive Dw (K:PySem.W.Frag) (H:Hp):V→WData→Prop
 |non:Dw K H .non .none
 |bl (b:Bool):Dw K H (.bl b) (.bool b)
 |int (i:Int):Dw K H (.int i) (.int i)
 |str (x:Str):Dw K H (.str x) (.str x)
 |byt (b:Array UInt8):Dw K H (.byt b) (.bytes b.toList)
 |lst {a:Addr} {xs:List V} {ds:List WData}:SqL K H a xs→DwAll K H xs ds→Dw K H (.ref a) (.list ds)
 |tup {a:Addr} {xs:List V} {ds:List WData}:SqT K H a xs→DwAll K H xs ds→Dw K H (.ref a) (.tuple ds)
inductive DwAll (K:PySem.W.Frag) (H:Hp):List V→List WData→Prop
 |nil:DwAll K H [] []
 |cons {v:V} {vs:List V} {d:WData} {ds:List WData}:Dw K H v d→DwAll K H vs ds→DwAll K H (v::vs) (d::ds)
end
theorem dw_ints {K:PySem.W.Frag} {H:Hp}:∀ ns:List Int,DwAll K H (ns.map V.int) (ns.map WData.int)
 | []=>.nil
 |n::r=>.cons (.int n) (dw_ints r)
theorem ints_dw {K:PySem.W.Frag} {H:Hp}:∀ (ns:List Int) (xs:List V),DwAll K H xs (ns.map WData.int)→xs=ns.map V.int
 | [],xs,h=>by
  cases h
  rfl
 |n::r,xs,h=>by
  cases h with
  |cons h1 h2=>
   cases h1
   rw [ints_dw r _ h2] <;> rfl
section
variable {P:Program} {w:World} {K:PySem.W.Frag} {H:Hp} {h:Heap} {R:PySem.W.WRecords} {cl:Str→Option Addr}
theorem sqL_at {a:Addr} {xs:List V} (hok:HOk P w H h) (KX:K.In h) (q:SqL K H a xs):∃ (its:List Value) (o:Obj) (n:Nat),Vals xs its∧h.get? a=some o∧o.cls=.type "list"∧o.data=.seq its.toArray n:=by
 rcases q with q | ⟨o,its,n,e,hc,_,hd,_,hv⟩
 ·obtain ⟨_,its,n,hv,e⟩:=(show ObjOk P w H h a (.lst xs) from q.ok hok)
  exact ⟨its,_,n,hv,e,rfl,rfl⟩
 ·exact ⟨its.toList,o,n,hv,KX _ _ e,hc,by simp [hd]⟩
theorem sqT_at {a:Addr} {xs:List V} (hok:HOk P w H h) (KX:K.In h) (q:SqT K H a xs):∃ (its:List Value) (o:Obj) (n:Nat),Vals xs its∧h.get? a=some o∧o.cls=.type "tuple"∧o.data=.seq its.toArray n:=by
 rcases q with q | ⟨o,its,n,e,hc,hd,_,hv⟩
 ·obtain ⟨_,its,hv,o,e,hc,n,hd⟩:=(show ObjOk P w H h a (.tup xs) from q.ok hok)
  exact ⟨its,o,n,hv,e,hc,hd⟩
 ·exact ⟨its.toList,o,n,hv,KX _ _ e,hc,by simp [hd]⟩
mutual
theorem Dw.reads (hok:HOk P w H h) (KX:K.In h):∀ (d:WData) (v:V) (u:Value),Dw K H v d→RelV v u→∃ as,ReadsW R cl h u d as
 | .none,_,_,x,r=>by
  cases x
  cases r
  exact ⟨_,ReadsW.none⟩
 | .bool b,_,_,x,r=>by
  cases x
  cases r
  exact ⟨_,ReadsW.bool b⟩
 | .int i,_,_,x,r=>by
  cases x
  obtain ⟨t,rfl⟩:=r
  exact ⟨_,ReadsW.int i t⟩
 | .str s,_,_,x,r=>by
  cases x
  obtain ⟨t,rfl⟩:=r
  exact ⟨_,ReadsW.str s t⟩
 | .bytes b,_,_,x,r=>by
  cases x
  obtain ⟨t,rfl⟩:=r
  exact ⟨_,ReadsW.bytes _ t⟩
 | .list ds,_,_,x,r=>by
  cases x with
  |lst hs ha=>
   cases r
   obtain ⟨its,o,n,rv,ho,hc,hd⟩:=sqL_at hok KX hs
   obtain ⟨as,hr⟩:=Dw.readsAll hok KX ds _ its ha rv
   exact ⟨_,ReadsW.list ho hc hd hr⟩
 | .tuple ds,_,_,x,r=>by
  cases x with
  |tup hs ha=>
   cases r
   obtain ⟨its,o,n,rv,ho,hc,hd⟩:=sqT_at hok KX hs
   obtain ⟨as,hr⟩:=Dw.readsAll hok KX ds _ its ha rv
   exact ⟨_,ReadsW.tuple ho hc hd hr⟩
 | .float _,_,_,x,_=>by cases x
 | .dict _,_,_,x,_=>by cases x
 | .bytearray _,_,_,x,_=>by cases x
 | .set _,_,_,x,_=>by cases x
 | .frozenset _,_,_,x,_=>by cases x
 | .obj _ _,_,_,x,_=>by cases x
theorem Dw.readsAll (hok:HOk P w H h) (KX:K.In h):∀ (ds:List WData) (vs:List V) (us:List Value),DwAll K H vs ds→Vals vs us→∃ as,ReadsAllW R cl h us ds as
 | [],_,_,x,r=>by
  cases x
  cases r
  exact ⟨_,ReadsAllW.nil⟩
 |d::ds,_,_,x,r=>by
  cases x with
  |cons h1 h2=>
   cases r with
   |cons r1 r2=>
    obtain ⟨as,q1⟩:=Dw.reads hok KX d _ _ h1 r1
    obtain ⟨bs,q2⟩:=Dw.readsAll hok KX ds _ _ h2 r2
    exact ⟨_,ReadsAllW.cons q1 q2⟩
end
end
mutual
def plW:WData→Bool
 | .none=>true
 | .bool _=>true
 | .int _=>true
 | .str _=>true
 | .bytes _=>true
 | .list xs=>plWs xs
 | .tuple xs=>plWs xs
 |_=>false
def plWs:List WData→Bool
 | []=>true
 |x::r=>plW x && plWs r
end
theorem plWs_map {α:Type} {f:α→WData} (h:∀ a,plW (f a)=true):∀ l:List α,plWs (l.map f)=true
 | []=>rfl
 |x::r=>by
  show (plW (f x) && plWs (r.map f))=true
  rw [h x,plWs_map h r] <;> rfl
theorem pl_enc:∀ (c:Codec) (a:c.denote),plW (c.enc a)=true
 | .unit,_=>rfl
 | .bool,_=>rfl
 | .int _ _,_=>rfl
 | .nat _ _,_=>rfl
 | .u8,_=>rfl
 | .bytes _ _,_=>rfl
 | .text _ _ _ _,_=>rfl
 | .list _ _ c,a=>plWs_map (fun x=>pl_enc c x) a
 | .pair c d,a=>by
  show (plW (c.enc a.1) && (plW (d.enc a.2) && true))=true
  rw [pl_enc c a.1,pl_enc d a.2] <;> rfl
 | .triple c d e,a=>by
  show (plW (c.enc a.1) && (plW (d.enc a.2.1) && (plW (e.enc a.2.2) && true)))=true
  rw [pl_enc c a.1,pl_enc d a.2.1,pl_enc e a.2.2] <;> rfl
 | .option c,none=>rfl
 | .option c,some x=>pl_enc c x
theorem pl_encAll:∀ (cs:List Codec) (a:Codec.denoteAll cs),plWs (Codec.encAll cs a)=true
 | [],_=>rfl
 |c::cs,a=>by
  show (plW (c.enc a.1) && plWs (Codec.encAll cs a.2))=true
  rw [pl_enc c a.1,pl_encAll cs a.2] <;> rfl
theorem weight_mem:∀ {xs:List WData} {d:WData},d ∈ xs→d.weight≤WData.weightAll xs
 | [],d,h=>absurd h (by simp)
 |x::r,d,h=>by
  show d.weight≤x.weight + 1 + WData.weightAll r
  rcases List.mem_cons.mp h with e | m
  ·rw [e]
   omega
  ·have z:=weight_mem m
   omega
def toV:Value→V
 | .none=>.non
 | .bool b=>.bl b
 | .int i _=>.int i
 | .str x _=>.str x
 | .bytes b _=>.byt b
 | .ref a=>.ref a
 |_=>.non
def OkU (A:List Addr):Value→Prop
 | .none=>True
 | .bool _=>True
 | .int _ _=>True
 | .str _ _=>True
 | .bytes _ _=>True
 | .ref a=>a ∈ A
 |_=>False
theorem OkU.mono {A B:List Addr} (h:∀ a ∈ A,a ∈ B):∀ {u:Value},OkU A u→OkU B u:=fun {u} x=>by
 cases u with
 |ref a=>exact h a x
 |none=>trivial
 |bool b=>trivial
 |int i t=>trivial
 |str s t=>trivial
 |bytes b t=>trivial
 |_=>exact False.elim x
theorem relV_toV {A:List Addr} {u:Value} (x:OkU A u):RelV (toV u) u:=by
 cases u with
 |ref a=>rfl
 |none=>rfl
 |bool b=>rfl
 |int i t=>exact ⟨t,rfl⟩
 |str s t=>exact ⟨t,rfl⟩
 |bytes b t=>exact ⟨t,rfl⟩
 |_=>exact False.elim x
theorem vals_toV {A:List Addr}:∀ {vs:List Value},(∀ u ∈ vs,OkU A u)→Vals (vs.map toV) vs
 | [],_=>.nil
 |u::r,h=>.cons (relV_toV (h u (List.mem_cons_self ..))) (vals_toV fun x hx=>h x (List.mem_cons_of_mem _ hx))
def ArgOb (h:Heap) (A:List Addr) (a:Addr):Prop:=∃ vs:List Value,vs.length≤sizeLine∧(∀ u ∈ vs,OkU A u)∧
 (h.get? a=some { cls:=.type "list",data:=.seq vs.toArray }∨h.get? a=some { cls:=.type "tuple",data:=.seq vs.toArray })
theorem ArgOb.mono {h:Heap} {A B:List Addr} {a:Addr} (k:∀ a ∈ A,a ∈ B) (x:ArgOb h A a):ArgOb h B a:=by
 obtain ⟨vs,h1,h2,h3⟩:=x
 exact ⟨vs,h1,fun u hu=>(h2 u hu).mono k,h3⟩
theorem wellAll_len {P:Params} {h:Heap}:∀ {vs:List Value} {ds:List WData},WellAll P h vs ds→vs.length=ds.length
 |_,_,.nil=>rfl
 |_,_,.cons _ b=>by
  show _ + 1=_ + 1
  rw [wellAll_len b]
theorem well_list {P:Params} {h:Heap} {v:Value} {ds:List WData} (x:Well P h v (.list ds)):∃ (a:Addr) (vs:List Value),v=.ref a∧h.get? a=some { cls:=.type "list",data:=.seq vs.toArray }∧WellAll P h vs ds:=by
 cases x with
 |list ho hall=>exact ⟨_,_,rfl,ho,hall⟩
theorem well_tuple {P:Params} {h:Heap} {v:Value} {ds:List WData} (x:Well P h v (.tuple ds)):∃ (a:Addr) (vs:List Value),v=.ref a∧h.get? a=some { cls:=.type "tuple",data:=.seq vs.toArray }∧WellAll P h vs ds:=by
 cases x with
 |tuple ho hall=>exact ⟨_,_,rfl,ho,hall⟩
theorem well_cons {P:Params} {h:Heap} {us:List Value} {d:WData} {ds:List WData} (x:WellAll P h us (d::ds)):∃ (v:Value) (vs:List Value),us=v::vs∧Well P h v d∧WellAll P h vs ds:=by
 cases x with
 |cons a b=>exact ⟨_,_,rfl,a,b⟩
theorem line_of {n:Nat} (h:n≤1048576):n≤sizeLine:=Nat.le_trans h (by decide)
section
variable {P:Params} {h:Heap}
mutual
theorem area_one:∀ (d:WData) (v:Value),Well P h v d→plW d=true→d.weight≤1048576→∃ A:List Addr,OkU A v∧∀ a ∈ A,ArgOb h A a
 | .none,_,x,_,_=>by
  cases x
  exact ⟨[],trivial,fun a m=>absurd m (by simp)⟩
 | .bool b,_,x,_,_=>by
  cases x
  exact ⟨[],trivial,fun a m=>absurd m (by simp)⟩
 | .int i,_,x,_,_=>by
  cases x
  exact ⟨[],trivial,fun a m=>absurd m (by simp)⟩
 | .str s,_,x,_,_=>by
  cases x
  exact ⟨[],trivial,fun a m=>absurd m (by simp)⟩
 | .bytes b,_,x,_,_=>by
  cases x
  exact ⟨[],trivial,fun a m=>absurd m (by simp)⟩
 | .list ds,_,x,p,z=>by
  obtain ⟨a,vs,rfl,ho,hall⟩:=well_list x
  have z2:WData.weightAll ds≤1048576:=z
  obtain ⟨A,h1,h2⟩:=area_all ds _ hall p fun d hd=>Nat.le_trans (weight_mem hd) z2
  have k:∀ b ∈ A,b ∈ a::A:=fun b hb=>List.mem_cons_of_mem _ hb
  refine ⟨a::A,List.mem_cons_self ..,fun b hb=>?_⟩
  rcases List.mem_cons.mp hb with e | m
  ·rw [e]
   exact ⟨vs,line_of (by rw [wellAll_len hall]; exact Nat.le_trans (PySem.W.length_le_weightAllW ds) z2),fun u hu=>(h1 u hu).mono k,.inl ho⟩
  ·exact (h2 b m).mono k
 | .tuple ds,_,x,p,z=>by
  obtain ⟨a,vs,rfl,ho,hall⟩:=well_tuple x
  have z2:WData.weightAll ds≤1048576:=z
  obtain ⟨A,h1,h2⟩:=area_all ds _ hall p fun d hd=>Nat.le_trans (weight_mem hd) z2
  have k:∀ b ∈ A,b ∈ a::A:=fun b hb=>List.mem_cons_of_mem _ hb
  refine ⟨a::A,List.mem_cons_self ..,fun b hb=>?_⟩
  rcases List.mem_cons.mp hb with e | m
  ·rw [e]
   exact ⟨vs,line_of (by rw [wellAll_len hall]; exact Nat.le_trans (PySem.W.length_le_weightAllW ds) z2),fun u hu=>(h1 u hu).mono k,.inr ho⟩
  ·exact (h2 b m).mono k
 | .float _,_,_,p,_=>Bool.noConfusion (show false=true from p)
 | .dict _,_,_,p,_=>Bool.noConfusion (show false=true from p)
 | .bytearray _,_,_,p,_=>Bool.noConfusion (show false=true from p)
 | .set _,_,_,p,_=>Bool.noConfusion (show false=true from p)
 | .frozenset _,_,_,p,_=>Bool.noConfusion (show false=true from p)
 | .obj _ _,_,_,p,_=>Bool.noConfusion (show false=true from p)
theorem area_all:∀ (ds:List WData) (vs:List Value),WellAll P h vs ds→plWs ds=true→(∀ d ∈ ds,d.weight≤1048576)→∃ A:List Addr,(∀ u ∈ vs,OkU A u)∧∀ a ∈ A,ArgOb h A a
 | [],_,x,_,_=>by
  cases x
  exact ⟨[],fun u m=>absurd m (by simp),fun a m=>absurd m (by simp)⟩
 |d::ds,_,x,p,z=>by
  obtain ⟨v,vs,rfl,x1,x2⟩:=well_cons x
  have q:plW d=true∧plWs ds=true:=Bool.and_eq_true_iff.mp p
  obtain ⟨A,a1,a2⟩:=area_one d v x1 q.1 (z d (List.mem_cons_self ..))
  obtain ⟨B,b1,b2⟩:=area_all ds vs x2 q.2 fun e he=>z e (List.mem_cons_of_mem _ he)
  have kA:∀ b ∈ A,b ∈ A ++ B:=fun b hb=>List.mem_append.mpr (.inl hb)
  have kB:∀ b ∈ B,b ∈ A ++ B:=fun b hb=>List.mem_append.mpr (.inr hb)
  refine ⟨A ++ B,fun u hu=>?_,fun b hb=>?_⟩
  ·rcases List.mem_cons.mp hu with e | m
   ·rw [e]
    exact a1.mono kA
   ·exact (b1 u m).mono kB
  ·rcases List.mem_append.mp hb with m | m
   ·exact (a2 b m).mono kA
   ·exact (b2 b m).mono kB
end
end
def hoOf (o:Obj):Option HO:=match o.data with
 | .seq vs _=>if (o.cls == Value.type "list")=true then some (.frz o (.lst (vs.toList.map toV))) else some (.frz o (.tup (vs.toList.map toV)))
 |_=>none
def argH (K:PySem.W.Frag) (h:Heap) (A:List Addr):Hp:=fun b=>if b ∈ A then (if (K.lookup b).isNone=true then (h.get? b).bind hoOf else none) else none
def OnlyF (H:Hp):Prop:=∀ b,H b=none∨∃ o u,H b=some (.frz o u)
theorem hoOf_lst (vs:List Value):hoOf { cls:=.type "list",data:=.seq vs.toArray }=some (.frz { cls:=.type "list",data:=.seq vs.toArray } (.lst (vs.map toV))):=by
 show (if (Value.type "list" == Value.type "list")=true then some (HO.frz { cls:=.type "list",data:=.seq vs.toArray } (.lst (vs.toArray.toList.map toV))) else some (HO.frz { cls:=.type "list",data:=.seq vs.toArray } (.tup (vs.toArray.toList.map toV))))=_
 rw [if_pos (beq_self_eq_true _)]
theorem hoOf_tup (vs:List Value):hoOf { cls:=.type "tuple",data:=.seq vs.toArray }=some (.frz { cls:=.type "tuple",data:=.seq vs.toArray } (.tup (vs.map toV))):=by
 show (if (Value.type "tuple" == Value.type "list")=true then some (HO.frz { cls:=.type "tuple",data:=.seq vs.toArray } (.lst (vs.toArray.toList.map toV))) else some (HO.frz { cls:=.type "tuple",data:=.seq vs.toArray } (.tup (vs.toArray.toList.map toV))))=_
 rw [if_neg (by decide)]
section
variable {P:Program} {w:World} {K:PySem.W.Frag} {h:Heap} {A:List Addr}
theorem argH_at {b:Addr} {o:Obj} (hb:b ∈ A) (hk:K.lookup b=none) (e:h.get? b=some o):argH K h A b=hoOf o:=by
 unfold argH
 rw [if_pos hb,hk,if_pos (show (none:Option Obj).isNone=true from rfl),e] <;> rfl
theorem of_argH {b:Addr} {u:HO} (q:argH K h A b=some u):b ∈ A∧K.lookup b=none:=by
 unfold argH at q
 by_cases hb:b ∈ A
 ·rw [if_pos hb] at q
  cases hk:K.lookup b with
  |none=>exact ⟨hb,rfl⟩
  |some o=>
   rw [hk,if_neg (by simp)] at q
   cases q
 ·rw [if_neg hb] at q
  cases q
theorem argH_is (ar:∀ a ∈ A,ArgOb h A a) {b:Addr} {u:HO} (q:argH K h A b=some u):K.lookup b=none∧∃ vs:List Value,vs.length≤sizeLine∧(∀ u ∈ vs,OkU A u)∧
  ((h.get? b=some { cls:=.type "list",data:=.seq vs.toArray }∧u=.frz { cls:=.type "list",data:=.seq vs.toArray } (.lst (vs.map toV)))∨
   (h.get? b=some { cls:=.type "tuple",data:=.seq vs.toArray }∧u=.frz { cls:=.type "tuple",data:=.seq vs.toArray } (.tup (vs.map toV)))):=by
 obtain ⟨hb,hk⟩:=of_argH q
 obtain ⟨vs,h1,h2,h3⟩:=ar b hb
 refine ⟨hk,vs,h1,h2,?_⟩
 rcases h3 with e | e
 ·rw [argH_at hb hk e,hoOf_lst] at q
  exact .inl ⟨e,(Option.some.inj q).symm⟩
 ·rw [argH_at hb hk e,hoOf_tup] at q
  exact .inr ⟨e,(Option.some.inj q).symm⟩
theorem argH_only (ar:∀ a ∈ A,ArgOb h A a):OnlyF (argH K h A):=fun b=>by
 cases q:argH K h A b with
 |none=>exact .inl rfl
 |some u=>
  obtain ⟨_,vs,_,_,⟨_,e⟩ | ⟨_,e⟩⟩:=argH_is ar q
  ·exact .inr ⟨_,_,by rw [e]⟩
  ·exact .inr ⟨_,_,by rw [e]⟩
theorem argH_ok (ar:∀ a ∈ A,ArgOb h A a):HOk P w (argH K h A) h:=fun b u q=>by
 obtain ⟨_,vs,h1,h2,⟨e,rfl⟩ | ⟨e,rfl⟩⟩:=argH_is ar q
 ·exact ⟨e,by rw [List.length_map]; exact h1,vs,_,vals_toV h2,e⟩
 ·exact ⟨e,by rw [List.length_map]; exact h1,vs,vals_toV h2,_,e,rfl,_,rfl⟩
theorem seq_inj {c c':Value} {vs us:List Value} (e:(some { cls:=c,data:=.seq vs.toArray }:Option Obj)=some { cls:=c',data:=.seq us.toArray }):c=c'∧vs=us:=by
 have e1:=Option.some.inj e
 have e2:c=c':=congrArg Obj.cls e1
 have e3:Data.seq vs.toArray=Data.seq us.toArray:=congrArg Obj.data e1
 injection e3 with e4
 refine ⟨e2,?_⟩
 have e5:=congrArg Array.toList e4
 simpa using e5
theorem argL (KX:K.In h) (ar:∀ a ∈ A,ArgOb h A a) {a:Addr} {vs:List Value} (ha:a ∈ A) (e:h.get? a=some { cls:=.type "list",data:=.seq vs.toArray }):(∀ u ∈ vs,OkU A u)∧SqL K (argH K h A) a (vs.map toV):=by
 obtain ⟨us,h1,h2,h3⟩:=ar a ha
 have hu:us=vs:=by
  rcases h3 with q | q
  ·rw [e] at q
   exact (seq_inj q).2.symm
  ·rw [e] at q
   exact absurd (Value.type.inj (seq_inj q).1) (by decide)
 subst hu
 refine ⟨h2,?_⟩
 cases hk:K.lookup a with
 |none=>exact .inl (.inr ⟨_,by rw [argH_at ha hk e,hoOf_lst]⟩)
 |some o=>
  have e2:=KX a o hk
  rw [e] at e2
  obtain rfl:=Option.some.inj e2
  exact .inr ⟨_,us.toArray,_,hk,rfl,rfl,rfl,by rw [List.size_toArray]; exact h1,by simpa using vals_toV h2⟩
theorem argT (KX:K.In h) (ar:∀ a ∈ A,ArgOb h A a) {a:Addr} {vs:List Value} (ha:a ∈ A) (e:h.get? a=some { cls:=.type "tuple",data:=.seq vs.toArray }):(∀ u ∈ vs,OkU A u)∧SqT K (argH K h A) a (vs.map toV):=by
 obtain ⟨us,h1,h2,h3⟩:=ar a ha
 have hu:us=vs:=by
  rcases h3 with q | q
  ·rw [e] at q
   exact absurd (Value.type.inj (seq_inj q).1) (by decide)
  ·rw [e] at q
   exact (seq_inj q).2.symm
 subst hu
 refine ⟨h2,?_⟩
 cases hk:K.lookup a with
 |none=>exact .inl (.inr ⟨_,by rw [argH_at ha hk e,hoOf_tup]⟩)
 |some o=>
  have e2:=KX a o hk
  rw [e] at e2
  obtain rfl:=Option.some.inj e2
  exact .inr ⟨_,us.toArray,_,hk,rfl,rfl,by rw [List.size_toArray]; exact h1,by simpa using vals_toV h2⟩
mutual
theorem dw_one {Pm:Params} (KX:K.In h) (ar:∀ a ∈ A,ArgOb h A a):∀ (d:WData) (v:Value),Well Pm h v d→plW d=true→OkU A v→Dw K (argH K h A) (toV v) d
 | .none,_,x,_,_=>by
  cases x
  exact .non
 | .bool b,_,x,_,_=>by
  cases x
  exact .bl b
 | .int i,_,x,_,_=>by
  cases x
  exact .int i
 | .str s,_,x,_,_=>by
  cases x
  exact .str s
 | .bytes b,_,x,_,_=>by
  cases x
  have z:=Dw.byt (K:=K) (H:=argH K h A) b.toArray
  exact z
 | .list ds,_,x,p,hu=>by
  obtain ⟨a,vs,rfl,ho,hall⟩:=well_list x
  obtain ⟨h2,hs⟩:=argL KX ar hu ho
  exact .lst hs (dw_all KX ar ds _ hall p h2)
 | .tuple ds,_,x,p,hu=>by
  obtain ⟨a,vs,rfl,ho,hall⟩:=well_tuple x
  obtain ⟨h2,hs⟩:=argT KX ar hu ho
  exact .tup hs (dw_all KX ar ds _ hall p h2)
 | .float _,_,_,p,_=>Bool.noConfusion (show false=true from p)
 | .dict _,_,_,p,_=>Bool.noConfusion (show false=true from p)
 | .bytearray _,_,_,p,_=>Bool.noConfusion (show false=true from p)
 | .set _,_,_,p,_=>Bool.noConfusion (show false=true from p)
 | .frozenset _,_,_,p,_=>Bool.noConfusion (show false=true from p)
 | .obj _ _,_,_,p,_=>Bool.noConfusion (show false=true from p)
theorem dw_all {Pm:Params} (KX:K.In h) (ar:∀ a ∈ A,ArgOb h A a):∀ (ds:List WData) (vs:List Value),WellAll Pm h vs ds→plWs ds=true→(∀ u ∈ vs,OkU A u)→DwAll K (argH K h A) (vs.map toV) ds
 | [],_,x,_,_=>by
  cases x
  exact .nil
 |d::ds,_,x,p,hu=>by
  obtain ⟨v,vs,rfl,x1,x2⟩:=well_cons x
  have q:plW d=true∧plWs ds=true:=Bool.and_eq_true_iff.mp p
  exact .cons (dw_one KX ar d v x1 q.1 (hu _ (List.mem_cons_self ..))) (dw_all KX ar ds vs x2 q.2 fun u m=>hu u (List.mem_cons_of_mem _ m))
end
end
theorem spec_call {P:Program} {w:World} {K:PySem.W.Frag} {mg mb:Str→Option Value} {CX:CXT} {k:Nat} {fa:Addr} {fd:FuncData} {ps:List Str} {sp:Sp} {s₁:Shared} {vals:List Value} {ds:List WData} {R:PySem.W.WRecords} {cl:Str→Option Addr} {d0:WData}
  (KX:K.In s₁.heap) (hns:s₁.heap.Ns mainGlobals mg) (hb:s₁.heap.Ns builtinsNs mb) (hbb:∀ x:Str,x ≠ "__name__"→mb x=bootBuiltins x) (hlim:s₁.heap.NoLimit) (hg:s₁.gens=#[])
  (hwl:WellAll w.params s₁.heap vals ds) (hpl:plWs ds=true) (hwt:∀ d ∈ ds,d.weight≤1048576) (hr:Room k callerA)
  (F:∀ base:Heap,K.In base→base.Ns mainGlobals mg→FnOk P w K mg base CX k fa fd ps sp) (hbind:∀ (s:Shared) (us:List Value),us.length=ps.length→BindsTo s fd ⟨us,[]⟩ (ps.zip us)) (hlen:ds.length=ps.length)
  (hsp:∀ (H:Hp) (xs:List V),OnlyF H→DwAll K H xs ds→sp xs H (fun v H'=>Dw K H' v d0) fun _ _ _=>False)
  (hCX:∀ H e s',CX [] H s₁ (fun _ _ _=>False) e s'→False) :
  codeAny (model P w) callerA (.call (.ref fa) ⟨vals,[]⟩) (fun r s'=>∃ u as,r=.ok (.ret u)∧ReadsW R cl s'.heap u d0 as∧OldK s₁.heap s'.heap∧s'.os=s₁.os∧AllBare s'.gens) s₁:=by
 obtain ⟨A,ho,ar⟩:=area_all ds vals hwl hpl hwt
 have hO:OnlyF (argH K s₁.heap A):=argH_only ar
 have hok:HOk P w (argH K s₁.heap A) s₁.heap:=argH_ok ar
 have hS:=dw_all KX ar ds vals hwl hpl ho
 have hV:=vals_toV ho
 have hK:∀ b u,argH K s₁.heap A b=some u→K.lookup b=none:=fun b u q=>(argH_is ar q).1
 have noA:∀ {b:Addr} {o:Obj} {es:Array DictEntry} {ep:Nat},s₁.heap.get? b=some o→o.data=.dict es ep→argH K s₁.heap A b=none:=fun {b o es ep} e d=>by
  cases q:argH K s₁.heap A b with
  |none=>rfl
  |some u=>
   obtain ⟨_,vs,_,_,⟨e2,_⟩ | ⟨e2,_⟩⟩:=argH_is ar q
   ·rw [e2] at e
    cases e
    have d':Data.seq vs.toArray _=Data.dict es ep:=d
    cases d'
   ·rw [e2] at e
    cases e
    have d':Data.seq vs.toArray _=Data.dict es ep:=d
    cases d'
 generalize argH K s₁.heap A=H at hO hok hS hK noA
 have base_of:∀ {b:Addr} {o:Obj},s₁.heap.get? b=some o→H b=none→(hidT s₁.heap H).get? b=some o:=fun e n=>hidT_get e n
 have nsK:∀ {b:Addr} {m:Str→Option Value},s₁.heap.Ns b m→(hidT s₁.heap H).Ns b m:=fun {b m} ⟨o,es,ep,e,d,r⟩=>⟨o,es,ep,base_of e (noA e d),d,r⟩
 have nK:∀ b o,K.lookup b=some o→H b=none:=fun b o e=>by
  cases q:H b with
  |none=>rfl
  |some u=>
   rw [hK b u q] at e
   cases e
 have hKb:K.In (hidT s₁.heap H):=fun b o e=>base_of (KX b o e) (nK b o e)
 have hM:Mod K mg (hidT s₁.heap H):=⟨hKb,nsK hns,⟨mb,nsK hb,hbb⟩,let ⟨mc,h1,h2⟩:=hlim; ⟨mc,nsK h1,h2⟩⟩
 have e0:Env0 P w K mg (hidT s₁.heap H) callerA [] s₁ H:=⟨rfl,hM,fun b o e=>of_hidT e,Nat.le_of_eq (hidT_size _ _),trivial,fun b hb=>absurd (show b ∈ ([]:List Addr) from hb) (by simp),hok,.of_eq hg⟩
 have hl:vals.length=ps.length:=by rw [wellAll_len hwl]; exact hlen
 refine codeAny_mono ((F _ hKb (nsK hns)).run callerA [] s₁ H ⟨vals,[]⟩ vals (vals.map toV) _ _ hr e0 (hbind s₁ vals hl) hV (hsp H _ hO hS)) fun r s' x=>?_
 cases r with
 |error e=>exact (hCX H e s' x).elim
 |ok fl=>
  cases fl with
  |next=>exact False.elim x
  |brk=>exact False.elim x
  |cont=>exact False.elim x
  |ret u=>
   obtain ⟨v,H',os,bare,un,hok',r',q⟩:=x
   have kept:∀ b o,s₁.heap.get? b=some o→s'.heap.get? b=some o:=fun b o e=>by
    cases q2:H b with
    |none=>exact un.keep b o e q2 (by intro z; exact absurd (show b ∈ ([]:List Addr) from z) (by simp)) (by simp)
    |some u2=>
     rcases hO b with z | ⟨ob,u3,z⟩
     ·rw [q2] at z
      cases z
     ·have z2:=un.frzs b ob _ z
      obtain ⟨e1,_⟩:=hok b _ z
      obtain ⟨e2,_⟩:=hok' b _ z2
      rw [e] at e1
      cases e1
      exact e2
   have KX':K.In s'.heap:=fun b o e=>kept b o (KX b o e)
   obtain ⟨as,hrd⟩:=Dw.reads (R:=R) (cl:=cl) hok' KX' d0 v u q r'
   exact ⟨u,as,rfl,hrd,OldK.of_keep kept,os,bare⟩
theorem layable_weight {ds:List WData} (h:WData.layableAll ds=true):∀ d ∈ ds,d.weight≤1048576:=fun d hd=>
 (PySem.W.layableW_iff.mp (List.all_eq_true.mp h d hd)).2.2
theorem encAll_len:∀ (cs:List Codec) (a:Codec.denoteAll cs),(Codec.encAll cs a).length=cs.length
 | [],_=>rfl
 |c::cs,a=>by
  show (Codec.encAll cs a.2).length + 1=cs.length + 1
  rw [encAll_len cs a.2]
theorem walk_spec {r:OpenSpec} {k:Nat} {q:Program} {loose:List Str} {XP:(Str→Option Value)→Heap→Prop} {YP:World→Heap→Prop} {d:DefRec} {K:Params→PySem.W.Frag} {CX:World→CXT} {ps:List Str} {sp:World→Sp}
  (hwell:r.wellSaid=true) (hdf:d.params.defaults=[]) (hlen:r.args.length=ps.length) (hr:Room k callerA)
  (hY:∀ (w:World) (h:Heap),YP w h→(K w.params).In h)
  (F:∀ (w:World) (mg:Str→Option Value) (fa:Addr) (h:Heap),YP w h→(K w.params).In h→h.Ns mainGlobals mg→mg d.name=some (.ref fa)→
   ∃ fd:FuncData,(∀ (s:Shared) (us:List Value),us.length=ps.length→BindsTo s fd ⟨us,[]⟩ (ps.zip us))∧
    ∀ base:Heap,(K w.params).In base→base.Ns mainGlobals mg→FnOk r.prog w (K w.params) mg base (CX w) k fa fd ps (sp w))
  (hsp:∀ (w:World) (H:Hp) (xs:List V) (a:Codec.denoteAll r.args),OnlyF H→Codec.withinAll r.args a=true→Codec.app r.args r.asked a=true→DwAll (K w.params) H xs (Codec.encAll r.args a)→
   sp w xs H (fun v H'=>Dw (K w.params) H' v (r.ret.enc (Codec.app r.args r.f a))) fun _ _ _=>False)
  (hCX:∀ (w:World) (H:Hp) (s:Shared) (e:Value) (s':Shared),CX w [] H s (fun _ _ _=>False) e s'→False) :
  PySem.W.WalkOS q loose XP YP r d [] (fun f vs=>PySem.call f vs):=by
 intro w s_0 s₁ mg mb G Y fa o pm cd doc dV kV ho hd hcd hD hmg hg args vals as hpre hlay hrd hwl hlo
 obtain ⟨a,e1,e2⟩:=PySem.W.os_pre_some hpre
 obtain ⟨e3,hwi⟩:=Codec.encAll_of_decAll r.args args a e1
 subst e3
 have KX:=hY w _ Y
 obtain ⟨fd,hb,hF⟩:=F w mg fa _ Y KX G.T.g hmg
 refine PySem.W.enter_call (codeAny_mono (spec_call (R:=[]) (cl:=classAt s_0.heap) (d0:=r.ret.enc (Codec.app r.args r.f a)) KX G.T.g G.T.b G.T.builtins G.T.nolimit hg hwl (pl_encAll _ _) (layable_weight hlay) hr hF hb (by rw [encAll_len]; exact hlen)
  (fun H xs hO hS=>hsp w H xs a hO hwi e2 hS) fun H e s'=>hCX w H s₁ e s') fun r' s' hq=>?_)
 obtain ⟨u,as',rfl,h1,h2,h3,h4⟩:=hq
 exact ⟨.inl ⟨u,_,as',rfl,fun _=>rfl,h1,(OpenSpec.post_iff hwell hwi _ _).mpr rfl,fun z=>Bool.noConfusion (show false=true from z)⟩,h2,h3,h4⟩
theorem walk_specK {r:OpenSpec} {k:Nat} {q:Program} {loose:List Str} {XP:(Str→Option Value)→Heap→Prop} {YP:World→Heap→Prop} {d:DefRec} {K:Params→PySem.W.Frag} {CX:CXT} {ps:List Str} {sp:PySem.W.Frag→Sp}
  (hwell:r.wellSaid=true) (hdf:d.params.defaults=[]) (hlen:r.args.length=ps.length) (hr:Room k callerA)
  (hY:∀ (w:World) (h:Heap),YP w h→(K w.params).In h)
  (F:∀ (w:World) (mg:Str→Option Value) (fa:Addr) (h:Heap),YP w h→(K w.params).In h→h.Ns mainGlobals mg→mg d.name=some (.ref fa)→
   ∃ fd:FuncData,(∀ (s:Shared) (us:List Value),us.length=ps.length→BindsTo s fd ⟨us,[]⟩ (ps.zip us))∧
    ∀ base:Heap,(K w.params).In base→base.Ns mainGlobals mg→FnOk r.prog w (K w.params) mg base CX k fa fd ps (sp (K w.params)))
  (hsp:∀ (K:PySem.W.Frag) (H:Hp) (xs:List V) (a:Codec.denoteAll r.args),OnlyF H→Codec.withinAll r.args a=true→Codec.app r.args r.asked a=true→DwAll K H xs (Codec.encAll r.args a)→
   sp K xs H (fun v H'=>Dw K H' v (r.ret.enc (Codec.app r.args r.f a))) fun _ _ _=>False)
  (hCX:∀ (H:Hp) (s:Shared) (e:Value) (s':Shared),CX [] H s (fun _ _ _=>False) e s'→False) :
  PySem.W.WalkOS q loose XP YP r d [] (fun f vs=>PySem.call f vs):=
 walk_spec (K:=K) (CX:=fun _=>CX) (sp:=fun w=>sp (K w.params)) hwell hdf hlen hr hY F (fun w H xs a h1 h2 h3 h4=>hsp (K w.params) H xs a h1 h2 h3 h4) fun _ H s e s'=>hCX H s e s'
end L2
namespace L2
open PySem PySem.Spec PyProof.Rows
section
variable {X:Cx}
theorem keys_vals {P:Program} {w:World}:∀ {kvs:List (Key × V)} {vs:List (Key × Value)} {us:List Value},KV kvs vs→us.length=vs.length→(∀ (j:Nat) (v:Value),us[j]?=some v→∃ k x,vs[j]?=some (k,x)∧(mixKind P w).is k v=true)→Vals (kvs.map fun p=>kV p.1) us
 |_,_,[],.nil,_,_=>.nil
 |_,_,_::_,.nil,hl,_=>by simp at hl
 |_,_,[],.cons _ _,hl,_=>by simp at hl
 |p::kvs,q::vs,u::us,.cons r t,hl,h=>by
  obtain ⟨k,x,e,hk⟩:=h 0 u rfl
  have e':q=(k,x):=Option.some.inj e
  subst e'
  have e1:p.1=k:=r.1
  refine .cons ?_ (keys_vals t (by simpa using hl) fun j v e=>h (j + 1) v e)
  show RelV (kV p.1) u
  rw [e1]
  rcases keyIs_shape (show keyIs k u=true from hk) with ⟨i,t,rfl,rfl⟩ | ⟨z,t,rfl,rfl⟩
  ·exact ⟨t,rfl⟩
  ·exact ⟨t,rfl⟩
def rListD:List V→Hp→VK→Prop:=fun xs H Q=>∃ (a:Addr) (kvs:List (Key × V)),xs=[V.ref a]∧H a=some (.dK kvs)∧∀ l,H l=none→Q (.ref l) (upd H l (.lst (kvs.map fun p=>kV p.1)))
theorem call_list_dict (hc:X.calm=true):CallR X (.type "list") rListD:=by
 intro pins s σ H xs us Q I r h
 obtain ⟨a,kvs,rfl,ha,q⟩:=h
 rw [Vals.ref1 r]
 obtain ⟨z,lo,vs,rel,dd⟩:=dk_of I.hok ha
 obtain ⟨ep,hat⟩:=dd.dictAt
 refine PySem.W.kdl_call (PySem.W.kdl_dict (knd:=mixKind X.prog X.w) (kvs:=vs) (ep:=ep) lo) (I.ok.hd hc) hat (by rw [← rel.length]; exact z) fun h' tk acc c hk he hacc=>?_
 have hlen:acc.toList.length=vs.length:=by rw [Array.length_toList]; exact hacc.1
 have hv:Vals (kvs.map fun p=>kV p.1) acc.toList:=keys_vals rel hlen fun j v e=>hacc.2 j v (by rw [← Array.getElem?_toList]; exact e)
 refine ⟨.ref s.heap.objs.size,upd H s.heap.objs.size (.lst (kvs.map fun p=>kV p.1)),I.laid (t':=tk) hk (Nat.le_refl _) ?_,rfl,q _ (I.hok.fresh (Nat.le_refl _))⟩
 exact ⟨by rw [List.length_map]; exact z,acc.toList,c,hv,by first | (rw [Array.toArray_toList]; exact he) | simpa using he⟩
def rSortedD:List V→Hp→VK→Prop:=fun xs H Q=>∃ (a:Addr) (kvs:List (Key × V)) (ns:List Int),xs=[V.ref a]∧H a=some (.dK kvs)∧kvs.map (fun p=>kV p.1)=ns.map V.int∧
 ∀ (ns':List Int) (p:Addr),ns'.Perm ns→ns'.Pairwise (·≤·)→H p=none→Q (.ref p) (upd H p (.lst (ns'.map V.int)))
theorem cr_sortedD (hc:X.calm=true):CallR X (.builtin "sorted") rSortedD:=by
 intro pins s σ H xs us Q I r h
 obtain ⟨a,kvs,ns,rfl,ha,hns,q⟩:=h
 rw [Vals.ref1 r]
 obtain ⟨z,lo,vs,rel,dd⟩:=dk_of I.hok ha
 obtain ⟨ep,hat⟩:=dd.dictAt
 have hz:vs.length≤sizeLine:=by rw [← rel.length]; exact z
 refine Calls.call_function_entry kind_sorted plain_sorted entry_sorted (args_sorted1 _) ?_
 unfold Builtin.«sorted»
 refine wpAny_bind (m:=checkCount "sorted" 1 1 _) (wpAny_pure ?_)
 refine wpAny_bind (PySem.W.kdu_collect (A:=X.A.in1) (PySem.W.kdl_dict (knd:=mixKind X.prog X.w) (kvs:=vs) (ep:=ep) lo) (I.ok.hd hc) hat hz fun h' tk acc hk hacc=>?_)
 have hlen:acc.toList.length=vs.length:=by rw [Array.length_toList]; exact hacc.1
 have hv:Vals (kvs.map fun p=>kV p.1) acc.toList:=keys_vals rel hlen fun j v e=>hacc.2 j v (by rw [← Array.getElem?_toList]; exact e)
 rw [hns] at hv
 have hi:=hv.ints
 refine wpAny_bind (wpAny_newList ?_ (by rw [hlen]; exact hz))
 have hoL:(h'.push { cls:=.type "list",data:=.seq acc.toList.toArray }).get? h'.objs.size=some (seqObj "list" acc.toList.toArray 0):=Heap.get?_push_size _ rfl
 refine wpAny_bind (wpAny_holding (wpAny_call_entry slot_list_sort ⟨_,hoL,rfl⟩ entry_list_sort (list_sort_treeAny hoL hi (by rw [hlen]; exact hz) fun out ns' h1 h2 h3=>⟨_,rfl,?_⟩) (args_list_sort _)))
 refine wpAny_pure ⟨_,rfl,?_⟩
 obtain ⟨ep',he'⟩:=sortedHeap_at (vs:=acc.toList) (out:=out) hoL
 have I1:Inv X pins σ H { s with heap:=h',toks:=tk }:=I.kept hk
 have hl2:(ns'.map V.int).length≤sizeLine:=by
  rw [List.length_map,h2.length_eq]
  have e:=congrArg List.length hns
  rw [List.length_map,List.length_map] at e
  rw [← e]; exact z
 refine ⟨.ref h'.objs.size,upd H h'.objs.size (.lst (ns'.map V.int)),I1.laid (t':=tk) (fun b u hb=>?_) (Nat.le_refl _) ⟨hl2,out.toList,ep',vals_of_ints h1,by first | exact he' | simpa using he'⟩,rfl,q ns' _ h2 h3 (I1.hok.fresh (Nat.le_refl _))⟩
 have hlt:b < h'.objs.size:=Heap.lt_size hb
 rw [sortedHeap_old (Nat.ne_of_lt hlt) (by rw [size_push']; exact Nat.lt_succ_of_lt hlt)]
 exact Heap.get?_push_of_some _ hb
structure Callee (X:Cx) (f:Addr) (n:Nat) (sp:Sp):Prop where
 ex:∃ (k:Nat) (fd:FuncData) (ps:List Str),FnOk X.prog X.w X.K X.mg X.base CX0 k f fd ps sp∧Room k X.A∧Binds X.K fd ps []∧ps.length=n
 kp:PySem.W.keepIn X.K (.ref f)=true
def tCallV (X:Cx) (i:Nat) (n:Nat) (t:TA):TE:=fun σ H Q=>∃ (f:Addr) (sp:Sp),σ[i]?=some (some (.ref f))∧Callee X f n sp∧t σ H fun vs H1=>sp vs H1 Q E0
theorem pe_callV {i n:Nat} {x:Str} {p pos:Pos} {e:Expr} {es:List Expr} {t:TA} (hN:X.N[i]?=some x) (hv:Vis X.env.scope x) (ha:PA X (e::es) t) (hd:(x == ("__debug__":Str))=false:=by decide) (hcd:(x == ("__classdict__":Str))=false:=by decide)
  (he:starEach (e::es) X.env=(false,eval e X.env)::starEach es X.env:=by rfl) (hpl:(backTo pos (starEach es X.env)).any (·.1)=false:=by rfl) :
  PE X (.Call (.Name x p) (e::es) [] pos) (tCallV X i n t):=by
 intro pins s σ H Q I h
 obtain ⟨f,sp,hi,⟨⟨k,fd,ps,F,hr,hb,_⟩,hk⟩,h⟩:=h
 have hx:=pe_var (pos:=p) hN hv hd hcd pins s σ H (fun v H1=>v=.ref f∧H1=H) I ⟨.ref f,hi,rfl,rfl⟩
 refine wpAny_Call_Name_kw (thn hx fun v s0 ⟨y,H0,I0,r0,e1,e2⟩=>?_)
 subst e1 e2
 cases r0
 refine PySem.W.callWith_K (h₀:=X.base) I0.ok.mod.kin hk (thn (ha pos pins s0 σ _ _ I0 h) fun us s1 ⟨vs,H1,I1,r,q⟩=>⟨I1.kIn,?_⟩) he hpl
 exact run_fn F hr hb (.nil) pass0 I1 r (by rw [List.append_nil]; exact q)
end
end L2
namespace L2
open PySem PySem.Spec PyProof.Rows
section
variable {X:Cx}
def rBits:V→List V→Hp→VK→Prop:=fun x xs H Q=>∃ i:Int,x=.int i∧xs=[]∧Q (.int (Builtin.Int.intBits i:Nat)) H
theorem mt_bits:MtR X "int.bit_length" rBits:=by
 intro pins s σ H x xs v us Q I rx rs h
 obtain ⟨i,rfl,rfl,h⟩:=h
 obtain ⟨t,rfl⟩:=rx
 cases rs
 exact call_gives PySem.F.slot_int_bit_length (typeIs_int s i t) PySem.F.entry_int_bit_length (PySem.F.args_int_bit_length_1 _) (PySem.AutoIntG2.int_bit_length_int_0 i t) ⟨.int _,H,I.tok _,⟨_,rfl⟩,h⟩
def nkIs:Option Key→Value→Bool
 |none,v=>v == Value.none
 |some k,v=>keyIs k v
def nkH (w:World):Option Key→Int
 |none=>PySem.W.hashW w.params .none
 |some k=>keyH w k
theorem nk_none {v:Value} (h:nkIs none v=true):v=Value.none:=by
 cases v <;> first | rfl | exact absurd h (by simp [nkIs])
def nKind (prog:Program) (w:World):PySem.KeyKind prog w (Option Key) where
 is:=nkIs
 hash:=nkH w
 inj:=fun v a b ha hb=>by
  cases a with
  |none=>
   have e:=nk_none ha
   subst e
   cases b with
   |none=>rfl
   |some k=>rcases keyIs_shape (show keyIs k .none=true from hb) with ⟨i,t,_,e⟩ | ⟨x,t,_,e⟩ <;> cases e
  |some k=>
   cases b with
   |none=>
    have e:=nk_none hb
    subst e
    rcases keyIs_shape (show keyIs k .none=true from ha) with ⟨i,t,_,e⟩ | ⟨x,t,_,e⟩ <;> cases e
   |some k'=>rw [(mixKind prog w).inj v k k' ha hb]
 byValue:=fun k v h=>by
  cases k with
  |none=>rw [nk_none h]; rfl
  |some k=>exact (mixKind prog w).byValue k v h
 pyHash:=fun {A E s k v Q} hv h=>by
  cases k with
  |none=>
   rw [nk_none hv]
   exact PySem.W.pyHash_slot (T:="NoneType") rfl F.slot_NoneType_hash F.entry_NoneType_hash (F.args_NoneType_hash_1 _) (PySem.beq_builtin_none _) (.inl rfl) (wpAny_bind (wpAny_pure (wpAny_bind (wpAny_mkInt (wpAny_pure ⟨_,_,rfl,h⟩)))))
  |some k=>exact (mixKind prog w).pyHash (k:=k) hv h
 eqBool:=fun {A E s a b u v Q} hu hv h=>by
  cases a with
  |none=>
   rw [nk_none hu]
   cases b with
   |none=>
    rw [nk_none hv]
    exact SeqAt.EqAt.same _ _ _ _ _ (by simpa using h)
   |some k=>
    rcases keyIs_shape (show keyIs k v=true from hv) with ⟨i,t,rfl,rfl⟩ | ⟨x,t,rfl,rfl⟩
    ·exact SeqAt.EqAt.none_int i t _ _ _ _ (by simpa using h)
    ·exact SeqAt.EqAt.none_str x t _ _ _ _ (by simpa using h)
  |some k=>
   cases b with
   |none=>
    rw [nk_none hv]
    rcases keyIs_shape (show keyIs k u=true from hu) with ⟨i,t,rfl,rfl⟩ | ⟨x,t,rfl,rfl⟩
    ·exact SeqAt.EqAt.int_none i t _ _ _ _ (by simpa using h)
    ·exact SeqAt.EqAt.str_none x t _ _ _ _ (by simpa using h)
   |some k'=>
    refine (mixKind prog w).eqBool (a:=k) (b:=k') hu hv ?_
    have e:decide (some k=some k')=decide (k=k'):=by
     by_cases q:k=k'
     ·subst q; simp
     ·rw [decide_eq_false q,decide_eq_false (fun z=>q (Option.some.inj z))]
    rw [e] at h; exact h
 «strs»:=fun k x t v h=>by
  cases k with
  |none=>exact absurd (nk_none h) (fun e=>nomatch e)
  |some k=>exact (mixKind prog w).strs k x t v h
theorem nk_pairs {P:Program} {w:World}:∀ {es:List DictEntry} {vs:List (Key × Value)},Pairs (mixKind P w) es vs→Pairs (nKind P w) es (vs.map fun p=>(some p.1,p.2))
 |_,_,.nil=>.nil
 |_,_,.cons h1 h2 t=>.cons h1 h2 (nk_pairs t)
theorem nk_dict {P:Program} {w:World} {h:Heap} {a:Addr} {vs:List (Key × Value)} (d:h.DictOf (mixKind P w) a vs):h.DictOf (nKind P w) a (vs.map fun p=>(some p.1,p.2)):=by
 obtain ⟨o,es,ep,h1,h2,h3,h4,h5,h6⟩:=d
 refine ⟨o,es,ep,h1,h2,h3,?_,nk_pairs h5,?_⟩
 ·intro e he
  obtain ⟨k,q⟩:=h4 e he
  exact ⟨some k,q⟩
 ·rw [List.map_map]
  have:((fun p:Option Key × Value=>p.1) ∘ fun p:Key × Value=>(some p.1,p.2))=some ∘ (fun p:Key × Value=>p.1):=rfl
  rw [this,← List.map_map]
  exact List.Pairwise.map _ (fun a b hab e=>hab (Option.some.inj e)) h6
theorem nk_no (vs:List (Key × Value)):valueAt (vs.map fun p=>((some p.1:Option Key),p.2)) none=none:=by
 unfold valueAt
 rw [List.find?_map]
 have:(List.find? ((fun kv:Option Key × Value=>decide (kv.1=none)) ∘ fun p:Key × Value=>(some p.1,p.2)) vs)=none:=by
  rw [List.find?_eq_none]
  intro x _
  simp
 rw [this]
 rfl
def DGetN (H:Hp) (a:Addr) (y:V) (o:Option V):Prop:=DGet H a y o∨(y=.non∧o=none∧∃ kvs,H a=some (.dK kvs))
def tDInN (ty td:TE):TE:=fun σ H Q=>ty σ H fun y H1=>td σ H1 fun x H2=>∃ a o,x=.ref a∧DGetN H2 a y o∧Q (.bl o.isSome) H2
def tDNotInN (ty td:TE):TE:=fun σ H Q=>ty σ H fun y H1=>td σ H1 fun x H2=>∃ a o,x=.ref a∧DGetN H2 a y o∧Q (.bl (!o.isSome)) H2
variable {o i:Expr} {td ty:TE}
theorem pc_dinN (hu:X.A.units + 1 < cLine) (hi:PE X i ty) (ho:PE X o td):PC X .In i o (tDInN ty td):=by
 intro pins s σ H Q I h
 refine thn (hi pins s σ H _ I h) fun iv s1 ⟨y,H1,I1,ry,q1⟩=>thn (ho pins s1 σ H1 _ I1 q1) fun u s2 ⟨x,H2,I2,rx,a,ov,ex,g,q2⟩=>?_
 subst ex
 obtain rfl:u=Value.ref a:=rx
 rcases g with g | ⟨rfl,rfl,kvs,e⟩
 ·exact d_in hu I2 g ry fun s3 I3=>⟨.bl ov.isSome,H2,I3,rfl,q2⟩
 ·obtain rfl:iv=Value.none:=ry
  obtain ⟨z,hd,vs,rel,dd⟩:=dk_of I2.hok e
  refine wpAny_in_of (knd:=nKind X.prog X.w) (k:=none) rfl hd (nk_dict dd).mapOf ?_
  rw [nk_no]
  exact ⟨.bl false,H2,I2.tok _,rfl,q2⟩
theorem pc_dnotinN (hu:X.A.units + 1 < cLine) (hi:PE X i ty) (ho:PE X o td):PC X .NotIn i o (tDNotInN ty td):=by
 intro pins s σ H Q I h
 refine thn (hi pins s σ H _ I h) fun iv s1 ⟨y,H1,I1,ry,q1⟩=>thn (ho pins s1 σ H1 _ I1 q1) fun u s2 ⟨x,H2,I2,rx,a,ov,ex,g,q2⟩=>?_
 subst ex
 obtain rfl:u=Value.ref a:=rx
 rcases g with g | ⟨rfl,rfl,kvs,e⟩
 ·exact d_notIn hu I2 g ry fun s3 I3=>⟨.bl (!ov.isSome),H2,I3,rfl,q2⟩
 ·obtain rfl:iv=Value.none:=ry
  obtain ⟨z,hd,vs,rel,dd⟩:=dk_of I2.hok e
  refine wpAny_notIn_of (knd:=nKind X.prog X.w) (k:=none) rfl hd (nk_dict dd).mapOf ?_
  rw [nk_no]
  exact ⟨.bl true,H2,I2.tok _,rfl,q2⟩
end
end L2
namespace L2
open PySem PySem.Spec PyProof.Rows
section
variable {X:Cx}
def rIxN (K:PySem.W.Frag):V→V→Hp→VK→Prop:=fun x y H Q=>∃ p xs i v,x=.ref p∧y=.int ((i:Nat):Int)∧SqL K H p xs∧xs[i]?=some v∧Q v H
theorem get_list:PGet X (rIxN X.K):=by
 intro pins s σ H o i ov iv Q I ro ri h
 obtain ⟨p,xs,k,z,rfl,rfl,hq,he,q⟩:=h
 cases ro
 obtain ⟨t,rfl⟩:=ri
 obtain ⟨its,r,pl,hz⟩:=I.list hq
 obtain ⟨w,ew,rw'⟩:=r.get he
 have hl:=r.length
 have hn:=line63
 have hlt:=(List.getElem?_eq_some_iff.mp he).1
 exact wpAny_getItem_list pl.isList (by omega) (by omega) (by rw [Int.toNat_natCast]; simpa using ew) ⟨z,H,I,rw',q⟩
def tDSet (td ty tx:TE):TE:=fun σ H Q=>td σ H fun x H1=>∃ a,x=.ref a∧IsD H1 a∧ty σ H1 fun y H2=>tx σ H2 fun z H3=>∃ kvs k,H3 a=some (.dK kvs)∧y=kV k∧kvs.length < sizeLine∧
 (∀ v,valV kvs k=some v→Q v H3)∧(valV kvs k=none→Q z (upd H3 a (.dK (putK kvs k z))))
theorem d_setdef {pins:List (Addr × Obj)} {σ:St} {H:Hp} {s:Shared} {a:Addr} {kvs:List (Key × V)} {k:Key} {u r:Value} {z:V} {A:Around} {E:Value→Shared→Prop} {Q:Value→Shared→Prop} (I:Inv X pins σ H s) (e:H a=some (.dK kvs)) (ry:RelV (kV k) u) (rz:RelV z r) (hlt:kvs.length < sizeLine)
  (h1:∀ v w' s',valV kvs k=some v→Inv X pins σ H s'→RelV v w'→Q w' s') (h2:∀ s',valV kvs k=none→Inv X pins σ (upd H a (.dK (putK kvs k z))) s'→Q r s'):wpAny (model X.prog X.w) A (call (.builtin "dict.setdefault") [.ref a,u,r]) Q E s:=by
 obtain ⟨hz,hd,vs,rel,dd⟩:=dk_of I.hok e
 refine call_meetsIn PySem.F.slot_dict_setdefault dd.typeIs PySem.F.entry_dict_setdefault (PySem.F.args_dict_setdefault_3 _ _ _) (kt_meets_setdefault (mixKind X.prog X.w) a (kV_is ry) hd r)
  ⟨vs,dd,by rw [← rel.length]; exact hz,fun v hv=>?_,fun hv h' dd' hs=>?_⟩
 ·have q:=rel.val k
  rw [hv] at q
  cases q':valV kvs k with
  |none=>rw [q'] at q; cases q
  |some x=>
   rw [q'] at q
   exact h1 x v _ q' (I.tok _) q
 ·have q:=rel.val k
  rw [hv] at q
  cases q':valV kvs k with
  |some x=>rw [q'] at q; cases q
  |none=>
   refine h2 _ q' ?_
   have he:∃ q,h'.get? a=some q:=let ⟨q,_,_,hq,_⟩:=dd'; ⟨q,hq⟩
   have hl:(putK kvs k z).length≤sizeLine:=by have:=length_putK kvs k z; omega
   exact d_write I (by rw [e]; exact True.intro) hs he (dk_new hl hd (rel.put k rz) dd')
theorem pe_dset {o e f:Expr} {apos cpos:Pos} {td ty tx:TE} (ho:PE X o td) (he:PE X e ty) (hf:PE X f tx) (m:M2 X o "setdefault" apos e f cpos):PE X (.Call (.Attribute o "setdefault" apos) [e,f] [] cpos) (tDSet td ty tx):=by
 intro pins s σ H Q I h
 refine wpAny_Call_method m.base m.few m.line PySem.F.plainAttrs_dict PySem.F.slot_dict_setdefault PySem.F.type_dict_setdefault (thn (ho pins s σ H _ I h) fun u s1 ⟨x,H1,I1,rx,a,ex,d,q1⟩=>?_)
 subst ex
 obtain rfl:u=Value.ref a:=rx
 obtain ⟨t1,t2,_⟩:=isD_at I1 d
 refine ⟨t1,t2,?_⟩
 rw [m.trees]
 refine Calls.callWith_builtin rfl (Calls.evalArgs_plain (Calls.spliced_cons (thn (he pins s1 σ H1 _ I1 q1) fun iv s2 ⟨y,H2,I2,ry,q2⟩=>
  Calls.spliced_cons (thn (hf pins s2 σ H2 _ I2 q2) fun fv s3 ⟨z,H3,I3,rz,kvs,k,ea,ey,hl,q3,q4⟩=>Calls.spliced_nil ?_))))
 subst ey
 exact d_setdef I3 ea ry rz hl (fun v w' s' hv I' rv=>⟨v,H3,I',rv,q3 v hv⟩) fun s' hv I'=>⟨z,_,I',rz,q4 hv⟩
structure DK (P:Program) (w:World) (K:PySem.W.Frag) (a:Addr) (kvs:List (Key × V)):Prop where
 no:(a == sysModules)=false
 ex:∃ vs,KV kvs vs∧∀ h:Heap,(∀ o,K.lookup a=some o→h.get? a=some o)→h.DictOf (mixKind P w) a vs
theorem DK.at {pins:List (Addr × Obj)} {σ:St} {H:Hp} {s:Shared} {a:Addr} {kvs:List (Key × V)} (D:DK X.prog X.w X.K a kvs) (I:Inv X pins σ H s):∃ vs,KV kvs vs∧s.heap.DictOf (mixKind X.prog X.w) a vs:=by
 obtain ⟨vs,h1,h2⟩:=D.ex
 exact ⟨vs,h1,h2 _ fun o e=>I.kIn a o e⟩
def tDGetG (X:Cx) (td ty:TE):TE:=fun σ H Q=>td σ H fun x H1=>ty σ H1 fun y H2=>∃ a kvs k v,x=.ref a∧y=kV k∧DK X.prog X.w X.K a kvs∧valV kvs k=some v∧Q v H2
def tDInG (X:Cx) (ty td:TE):TE:=fun σ H Q=>ty σ H fun y H1=>td σ H1 fun x H2=>∃ a kvs k,x=.ref a∧y=kV k∧DK X.prog X.w X.K a kvs∧Q (.bl (valV kvs k).isSome) H2
theorem pe_dgetG {o i:Expr} {pos:Pos} {td ty:TE} (ho:PE X o td) (hi:PE X i ty) (hs:NoSl i):PE X (.Subscript o i pos) (tDGetG X td ty):=by
 intro pins s σ H Q I h
 refine subD_of PySem.F.slot_dict_getitem.lookup hs (thn (ho pins s σ H _ I h) fun u s1 ⟨x,H1,I1,rx,q1⟩=>thn (hi pins s1 σ H1 _ I1 q1) fun iv s2 ⟨y,H2,I2,ry,a,kvs,k,v,ex,ey,D,hv,q2⟩=>?_)
 subst ex ey
 obtain rfl:u=Value.ref a:=rx
 obtain ⟨vs,rel,dd⟩:=D.at I2
 obtain ⟨w',hw,rw'⟩:=RelO.some_of (v:=v) (o:=valueAt vs k) (by rw [← hv]; exact rel.val k)
 exact ⟨dd.typeIs,wpAny_getItem_of (kV_is ry) dd.mapOf hw (show EP X pins σ Q w' _ from ⟨v,H2,I2.tok _,rw',q2⟩)⟩
theorem pc_dinG {o i:Expr} {td ty:TE} (hi:PE X i ty) (ho:PE X o td):PC X .In i o (tDInG X ty td):=by
 intro pins s σ H Q I h
 refine thn (hi pins s σ H _ I h) fun iv s1 ⟨y,H1,I1,ry,q1⟩=>thn (ho pins s1 σ H1 _ I1 q1) fun u s2 ⟨x,H2,I2,rx,a,kvs,k,ex,ey,D,q2⟩=>?_
 subst ex ey
 obtain rfl:u=Value.ref a:=rx
 obtain ⟨vs,rel,dd⟩:=D.at I2
 refine wpAny_in_of (kV_is ry) D.no dd.mapOf ?_
 rw [← (rel.val k).isSome_eq]
 exact ⟨.bl _,H2,I2.tok _,rfl,q2⟩
end
end L2
namespace L2
open PySem PySem.Spec PyProof.Rows
def ItA (b:Bool) (h:Heap) (it l:Addr) (i:Nat):Prop:=match b with
 |true=>IsTupIter h it l i
 |false=>h.IsListIter it l i
def SqA (b:Bool) (h:Heap) (l:Addr) (xs:Array Value):Prop:=match b with
 |true=>IsTup h l xs
 |false=>h.IsList l xs
def SqV (b:Bool) (K:PySem.W.Frag) (H:Hp) (a:Addr) (xs:List V):Prop:=match b with
 |true=>SqT K H a xs
 |false=>SqL K H a xs
theorem ItA.at {b:Bool} {h h':Heap} {it l:Addr} {i:Nat} (x:ItA b h it l i) (k:∀ o,h.get? it=some o→h'.get? it=some o):ItA b h' it l i:=by
 cases b with
 |true=>obtain ⟨o,ho,r⟩:=(show IsTupIter h it l i from x); exact (show IsTupIter h' it l i from ⟨o,k o ho,r⟩)
 |false=>exact Heap.IsListIter.at (show h.IsListIter it l i from x) fun o e=>k o e
theorem ItA.obj {b:Bool} {h:Heap} {it l:Addr} {i:Nat} (x:ItA b h it l i):∃ o,h.get? it=some o∧∀ v,o.data ≠ .cell v:=by
 cases b with
 |true=>obtain ⟨o,ho,_,d⟩:=(show IsTupIter h it l i from x); exact ⟨o,ho,fun v z=>by rw [d] at z; cases z⟩
 |false=>obtain ⟨o,ho,_,d⟩:=(show h.IsListIter it l i from x); exact ⟨o,ho,fun v z=>by rw [d] at z; cases z⟩
theorem SqA.at {b:Bool} {h h':Heap} {l:Addr} {xs:Array Value} (x:SqA b h l xs) (k:∀ o,h.get? l=some o→h'.get? l=some o):SqA b h' l xs:=by
 cases b with
 |true=>obtain ⟨o,ho,r⟩:=(show IsTup h l xs from x); exact (show IsTup h' l xs from ⟨o,k o ho,r⟩)
 |false=>exact Heap.IsList.at (show h.IsList l xs from x) fun o e=>k o e
theorem SqA.lt {b:Bool} {h:Heap} {l:Addr} {xs:Array Value} (x:SqA b h l xs):l < h.objs.size:=by
 cases b with
 |true=>exact IsTup.lt (show IsTup h l xs from x)
 |false=>obtain ⟨o,ho,_⟩:=(show h.IsList l xs from x); exact Heap.lt_size ho
section
variable {X:Cx} {pins:List (Addr × Obj)} {σ:St} {H:Hp} {s:Shared} {a:Addr} {b:Bool} {xs ys:List V}
theorem Inv.sqv (I:Inv X pins σ H s) (h:SqV b X.K H a xs):∃ its:List Value,Vals xs its∧SqA b s.heap a its.toArray∧xs.length≤sizeLine:=by
 cases b with
 |true=>exact I.tuple h
 |false=>
  obtain ⟨its,r,p,z⟩:=I.list h
  exact ⟨its,r,p.isList,z⟩
theorem Inv.sqv_inj (I:Inv X pins σ H s) (h:SqV b X.K H a xs) (h':SqV b X.K H a ys):xs=ys:=by
 cases b with
 |true=>exact I.tuple_inj h h'
 |false=>exact I.list_inj h h'
end
section
variable {prog:Program} {w:World} {A:Around} {E:Value→Shared→Prop} {s:Shared}
theorem nextOf_item {b:Bool} {it l:Addr} {i:Nat} {items:Array Value} {x:Value} {Q:Value→Shared→Prop} (hit:ItA b s.heap it l i) (hl:SqA b s.heap l items) (hx:items[i]?=some x)
  (hQ:∀ h',ItA b h' it l (i + 1)→Heap.SameBut it s.heap h'→Q x { s with heap:=h' }):wpAny (model prog w) A (Builtin.SmallTypes.nextOf (.ref it)) Q E s:=by
 cases b with
 |false=>exact wpAny_nextOf_list_item hit hl hx hQ
 |true=>
  have hit:IsTupIter s.heap it l i:=hit
  have hl:IsTup s.heap l items:=hl
  obtain ⟨o,ho,hc,hd⟩:=id hit
  obtain ⟨ol,hol,_,nl,hdl⟩:=hl
  unfold Builtin.SmallTypes.nextOf
  refine wpAny_bind (wpAny_callSpecial?_slot (name:=Str.ofString "__next__") hit.typeIs slot_tupleiter_next
   (wpAny_call_entry slot_tupleiter_next hit.typeIs entry_tupleiter_next ?_ (args_tupleiter_next _)))
  show wpAny _ _ (field (.ref it) 0 >>= _) _ _ s
  refine wpAny_bind (wpAny_field ho hd (x:=.ref l) rfl ?_)
  show wpAny _ _ (if (Value.ref l == Value.none)=true then _ else _) _ _ s
  rw [if_neg (show ¬ ((Value.ref l == Value.none)=true) from Bool.false_ne_true)]
  show wpAny _ _ (field (.ref it) 1 >>= _) _ _ s
  refine wpAny_bind (wpAny_field ho hd (x:=.int i 0) rfl ?_)
  show wpAny _ _ (seqItems? (.ref l) >>= _) _ _ s
  refine wpAny_bind (wpAny_seqItems hol hdl ?_)
  simp only [Int.toNat_natCast,hx]
  refine wpAny_bind (wpAny_setField ho hd (by simp) (wpAny_pure ⟨x,rfl,wpAny_pure (hQ _ ?_ (Heap.SameBut.update ..))⟩))
  exact ⟨_,Heap.get?_update_self _ ho (Obj.isFreed_of_fields (Obj.data_mapFields hd _)),(Obj.cls_mapFields ..).trans hc,by
   rw [Obj.data_mapFields hd]; simp [rawInt]⟩
theorem nextOf_end {b:Bool} {it l:Addr} {i:Nat} {items:Array Value} {Q:Value→Shared→Prop} (hh:A.handled=none) (hit:ItA b s.heap it l i) (hl:SqA b s.heap l items) (hx:items[i]?=none)
  (hE:∀ h' e,Heap.ExtBut it s.heap h'→(∃ o,h'.get? e=some o∧o.cls=.type "StopIteration")→E (.ref e) { s with heap:=h' }) :
  wpAny (model prog w) A (Builtin.SmallTypes.nextOf (.ref it)) Q E s:=by
 cases b with
 |false=>exact wpAny_nextOf_list_end hh hit hl hx hE
 |true=>
  have hit:IsTupIter s.heap it l i:=hit
  have hl:IsTup s.heap l items:=hl
  obtain ⟨o,ho,hc,hd⟩:=id hit
  obtain ⟨ol,hol,_,nl,hdl⟩:=hl
  unfold Builtin.SmallTypes.nextOf
  refine wpAny_bind (wpAny_callSpecial?_slot (name:=Str.ofString "__next__") hit.typeIs slot_tupleiter_next
   (wpAny_call_entry slot_tupleiter_next hit.typeIs entry_tupleiter_next ?_ (args_tupleiter_next _)))
  show wpAny _ _ (field (.ref it) 0 >>= _) _ _ s
  refine wpAny_bind (wpAny_field ho hd (x:=.ref l) rfl ?_)
  show wpAny _ _ (if (Value.ref l == Value.none)=true then _ else _) _ _ s
  rw [if_neg (show ¬ ((Value.ref l == Value.none)=true) from Bool.false_ne_true)]
  show wpAny _ _ (field (.ref it) 1 >>= _) _ _ s
  refine wpAny_bind (wpAny_field ho hd (x:=.int i 0) rfl ?_)
  show wpAny _ _ (seqItems? (.ref l) >>= _) _ _ s
  refine wpAny_bind (wpAny_seqItems hol hdl ?_)
  simp only [Int.toNat_natCast,hx]
  refine wpAny_bind (wpAny_rule (wpAny_bind (wpAny_setField ho hd (by simp) ?_)))
  show wpAny _ _ (newExc (.type "StopIteration") [] >>= _) _ _ _
  refine wpAny_bind ?_
  simp only [newExc,newTuple]
  refine wpAny_bind (wpAny_newObj_type ?_ (by size_fits))
  refine wpAny_bind (m:=firstArgMember _ _) (wpAny_of_eq (a:=Value.none) (by first | rfl | (simp only [firstArgMember]; rfl)) ?_)
  refine wpAny_newObj_type ?_ (by size_fits)
  simp only [raiseNew]
  refine wpAny_bind (wpAny_handled ?_)
  first | rw [show A.in1.handled=none from hh] | rw [hh]
  refine wpAny_bind (wpAny_pure (wpAny_throw ?_))
  exact hE _ _ (((Heap.SameBut.update ..).extBut.push _).push _) ⟨_,Heap.get?_push_size _ rfl,rfl⟩
abbrev IsTri (h:Heap) (T:Addr) (a b c:Value):Prop:=h.get? T=some { cls:=.type "tuple",data:=.seq #[a,b,c] }
theorem updateSeq_tri {T:Addr} {a b c x:Value} {k:Nat} {Q:Unit→Shared→Prop} (hT:IsTri s.heap T a b c)
  (h:∀ h',h'.get? T=some { cls:=.type "tuple",data:=.seq ((#[a,b,c]:Array Value).setIfInBounds k x) }→Heap.SameBut T s.heap h'→Q () { s with heap:=h' }) :
  wpAny (model prog w) A (updateSeq T (·.setIfInBounds k x)) Q E s:=by
 refine wpAny_updateSeq hT rfl (h _ ?_ (Heap.SameBut.update ..))
 rw [Heap.get?_update_self _ hT rfl]
 simp [Obj.mapSeq]
structure Z3 (h:Heap) (n:Nat) (f0:Value) (b1 b2 b3:Bool) (l1 l2 l3:Nat) (k1 k2 k3:Nat) (a b c:Value):Prop where
 z:IsZip h (n + 5) (n + 3) (n + 4) f0
 ti:IsTri h (n + 3) (.ref n) (.ref (n + 1)) (.ref (n + 2))
 to:IsTri h (n + 4) a b c
 i1:ItA b1 h n l1 k1
 i2:ItA b2 h (n + 1) l2 k2
 i3:ItA b3 h (n + 2) l3 k3
section
variable {n l1 l2 l3:Nat} {b1 b2 b3:Bool} {k1 k2 k3:Nat} {xs ys zs:Array Value} {x y z a b c:Value}
theorem zip3_next_item {Q:Value→Shared→Prop} (Z:Z3 s.heap n .none b1 b2 b3 l1 l2 l3 k1 k2 k3 a b c) (g1:l1 < n) (g2:l2 < n) (g3:l3 < n)
  (hl1:SqA b1 s.heap l1 xs) (hl2:SqA b2 s.heap l2 ys) (hl3:SqA b3 s.heap l3 zs) (hx:xs[k1]?=some x) (hy:ys[k2]?=some y) (hz':zs[k3]?=some z)
  (hQ:∀ h',Z3 h' n (rawInt s.heap.objs.size) b1 b2 b3 l1 l2 l3 (k1 + 1) (k2 + 1) (k3 + 1) x y z→IsTri h' s.heap.objs.size x y z→h'.objs.size=s.heap.objs.size + 1→
   (∀ (q:Nat) o,q < n∨n + 5 < q→s.heap.get? q=some o→h'.get? q=some o)→Q (.ref s.heap.objs.size) { s with heap:=h' }) :
  wpAny (model prog w) A (Builtin.«zip.__next__» ⟨[.ref (n + 5)],[]⟩) (fun fin s'=>∃ v,fin=.done (.ret v)∧Q v s') E s:=by
 obtain ⟨hz,hTI,hTO,h1,h2,h3⟩:=Z
 have hlt:n + 5 < s.heap.objs.size:=Heap.lt_size hz
 show wpAny _ _ (field (.ref (n + 5)) 2 >>= _) _ _ _
 refine wpAny_bind (wpAny_field hz rfl (x:=.bool false) rfl ?_)
 show wpAny _ _ (field (.ref (n + 5)) 3 >>= _) _ _ _
 refine wpAny_bind (wpAny_field hz rfl (x:=.ref (n + 3)) rfl ?_)
 refine wpAny_bind (wpAny_seqItems hTI rfl ?_)
 show wpAny _ _ (Builtin.SmallTypes.ownedTupleIsFree (.ref (n + 5)) >>= _) _ _ _
 refine wpAny_bind ?_
 unfold Builtin.SmallTypes.ownedTupleIsFree
 refine wpAny_bind (wpAny_field hz rfl (x:=.none) rfl (wpAny_pure ?_))
 simp only [if_true]
 refine wpAny_bind (wpAny_rule ?_)
 refine wpAny_bind (wpAny_field hz rfl (x:=.ref (n + 4)) rfl ?_)
 refine wpAny_bind (wpAny_setField_rec hz (by simp) fun h₁ hz₁ hs₁=>?_)
 replace hz₁:IsZip h₁ (n + 5) (n + 3) (n + 4) .ellipsis:=hz₁
 refine wpAny_bind ?_
 simp only [List.zipIdx_cons,List.zipIdx_nil,List.forIn_cons,List.forIn_nil]
 have e1:∀ (q:Nat) o,q ≠ n + 5→s.heap.get? q=some o→h₁.get? q=some o:=fun q o hq e=>hs₁.extBut _ _ hq e
 refine wpAny_bind (wpAny_bind (wpAny_onRaise ?_))
 show wpAny _ _ (Builtin.SmallTypes.nextOf (.ref n) >>= _) _ _ _
 refine wpAny_bind (nextOf_item (h1.at fun o e=>e1 _ o (by omega) e) (hl1.at fun o e=>e1 _ o (by omega) e) hx fun h₂ h1₂ hs₂=>wpAny_pure ?_)
 have e2:∀ (q:Nat) o,q ≠ n→h₁.get? q=some o→h₂.get? q=some o:=fun q o hq e=>hs₂.extBut _ _ hq e
 have hTO₂:IsTri h₂ (n + 4) a b c:=e2 _ _ (by omega) (e1 _ _ (by omega) hTO)
 refine wpAny_bind (wpAny_seqItems hTO₂ rfl ?_)
 refine wpAny_bind (updateSeq_tri hTO₂ fun h₃ hTO₃ hs₃=>?_)
 replace hTO₃:IsTri h₃ (n + 4) x b c:=hTO₃
 have e3:∀ (q:Nat) o,q ≠ n + 4→h₂.get? q=some o→h₃.get? q=some o:=fun q o hq e=>hs₃.extBut _ _ hq e
 refine wpAny_bind (wpAny_letGo (wpAny_pure ?_))
 refine wpAny_bind (wpAny_bind (wpAny_onRaise ?_))
 show wpAny _ _ (Builtin.SmallTypes.nextOf (.ref (n + 1)) >>= _) _ _ _
 have t3:∀ (q:Nat) o,q ≠ n + 5→q ≠ n→q ≠ n + 4→s.heap.get? q=some o→h₃.get? q=some o:=fun q o q1 q2 q3 e=>e3 _ _ q3 (e2 _ _ q2 (e1 _ _ q1 e))
 refine wpAny_bind (nextOf_item (h2.at fun o e=>t3 _ o (by omega) (by omega) (by omega) e) (hl2.at fun o e=>t3 _ o (by omega) (by omega) (by omega) e) hy fun h₄ h2₄ hs₄=>wpAny_pure ?_)
 have e4:∀ (q:Nat) o,q ≠ n + 1→h₃.get? q=some o→h₄.get? q=some o:=fun q o hq e=>hs₄.extBut _ _ hq e
 have hTO₄:IsTri h₄ (n + 4) x b c:=e4 _ _ (by omega) hTO₃
 refine wpAny_bind (wpAny_seqItems hTO₄ rfl ?_)
 refine wpAny_bind (updateSeq_tri hTO₄ fun h₅ hTO₅ hs₅=>?_)
 replace hTO₅:IsTri h₅ (n + 4) x y c:=hTO₅
 have e5:∀ (q:Nat) o,q ≠ n + 4→h₄.get? q=some o→h₅.get? q=some o:=fun q o hq e=>hs₅.extBut _ _ hq e
 refine wpAny_bind (wpAny_letGo (wpAny_pure ?_))
 refine wpAny_bind (wpAny_bind (wpAny_onRaise ?_))
 show wpAny _ _ (Builtin.SmallTypes.nextOf (.ref (n + 2)) >>= _) _ _ _
 have t5:∀ (q:Nat) o,q ≠ n + 5→q ≠ n→q ≠ n + 4→q ≠ n + 1→s.heap.get? q=some o→h₅.get? q=some o:=fun q o q1 q2 q3 q4 e=>e5 _ _ q3 (e4 _ _ q4 (t3 _ _ q1 q2 q3 e))
 refine wpAny_bind (nextOf_item (h3.at fun o e=>t5 _ o (by omega) (by omega) (by omega) (by omega) e) (hl3.at fun o e=>t5 _ o (by omega) (by omega) (by omega) (by omega) e) hz' fun h₆ h3₆ hs₆=>wpAny_pure ?_)
 have e6:∀ (q:Nat) o,q ≠ n + 2→h₅.get? q=some o→h₆.get? q=some o:=fun q o hq e=>hs₆.extBut _ _ hq e
 have hTO₆:IsTri h₆ (n + 4) x y c:=e6 _ _ (by omega) hTO₅
 refine wpAny_bind (wpAny_seqItems hTO₆ rfl ?_)
 refine wpAny_bind (updateSeq_tri hTO₆ fun h₇ hTO₇ hs₇=>?_)
 replace hTO₇:IsTri h₇ (n + 4) x y z:=hTO₇
 have e7:∀ (q:Nat) o,q ≠ n + 4→h₆.get? q=some o→h₇.get? q=some o:=fun q o hq e=>hs₇.extBut _ _ hq e
 refine wpAny_bind (wpAny_letGo (wpAny_pure (wpAny_pure ?_)))
 refine wpAny_bind (wpAny_seqItems hTO₇ rfl ?_)
 refine wpAny_bind (wpAny_newTuple ?_)
 have hsz:h₇.objs.size=s.heap.objs.size:=by rw [hs₇.1,hs₆.1,hs₅.1,hs₄.1,hs₃.1,hs₂.1,hs₁.1]
 have t7:∀ (q:Nat) o,q ≠ n + 5→q ≠ n→q ≠ n + 4→q ≠ n + 1→q ≠ n + 2→s.heap.get? q=some o→h₇.get? q=some o:=fun q o q1 q2 q3 q4 q5 e=>e7 _ _ q3 (e6 _ _ q5 (t5 _ _ q1 q2 q3 q4 e))
 have hz₇:IsZip h₇ (n + 5) (n + 3) (n + 4) .ellipsis:=e7 _ _ (by omega) (e6 _ _ (by omega) (e5 _ _ (by omega) (e4 _ _ (by omega) (e3 _ _ (by omega) (e2 _ _ (by omega) hz₁)))))
 have h1₇:ItA b1 h₇ n l1 (k1 + 1):=h1₂.at fun o e=>e7 _ _ (by omega) (e6 _ _ (by omega) (e5 _ _ (by omega) (e4 _ _ (by omega) (e3 _ _ (by omega) e))))
 have h2₇:ItA b2 h₇ (n + 1) l2 (k2 + 1):=h2₄.at fun o e=>e7 _ _ (by omega) (e6 _ _ (by omega) (e5 _ _ (by omega) e))
 have h3₇:ItA b3 h₇ (n + 2) l3 (k3 + 1):=h3₆.at fun o e=>e7 _ _ (by omega) e
 have hTI₇:IsTri h₇ (n + 3) (.ref n) (.ref (n + 1)) (.ref (n + 2)):=t7 _ _ (by omega) (by omega) (by omega) (by omega) (by omega) hTI
 show wpAny _ _ (Builtin.SmallTypes.ownedTupleHandOut (.ref (n + 5)) (.ref h₇.objs.size) >>= _) _ _ _
 refine wpAny_bind ?_
 unfold Builtin.SmallTypes.ownedTupleHandOut
 have hz₈:IsZip (h₇.push { cls:=.type "tuple",data:=.seq #[x,y,z] }) (n + 5) (n + 3) (n + 4) .ellipsis:=Heap.get?_push_of_some _ hz₇
 refine wpAny_bind (wpAny_setField_rec hz₈ (by simp) fun h₉ hz₉ hs₉=>?_)
 replace hz₉:IsZip h₉ (n + 5) (n + 3) (n + 4) (rawInt h₇.objs.size):=hz₉
 refine wpAny_setField_rec hz₉ (by simp) fun g hzg hsg=>?_
 replace hzg:IsZip g (n + 5) (n + 3) (n + 4) (rawInt h₇.objs.size):=hzg
 have up:∀ (q:Nat) o,q ≠ n + 5→h₇.get? q=some o→g.get? q=some o:=fun q o c1 e=>hsg.extBut _ _ c1 (hs₉.extBut _ _ c1 (Heap.get?_push_of_some _ e))
 have hne7:h₇.objs.size ≠ n + 5:=by rw [hsz]; exact Nat.ne_of_gt hlt
 have hTg:IsTri g h₇.objs.size x y z:=hsg.extBut _ _ hne7 (hs₉.extBut _ _ hne7 (Heap.get?_push_size _ rfl))
 have hzs:g.objs.size=h₇.objs.size + 1:=by rw [hsg.1,hs₉.1,Heap.size_push]
 rw [hsz] at hzg hTg hzs
 refine wpAny_pure ⟨_,rfl,?_⟩
 show Q (.ref h₇.objs.size) _
 rw [hsz]
 exact hQ g ⟨hzg,up _ _ (by omega) hTI₇,up _ _ (by omega) hTO₇,h1₇.at fun o e=>up _ o (by omega) e,h2₇.at fun o e=>up _ o (by omega) e,h3₇.at fun o e=>up _ o (by omega) e⟩ hTg hzs
  fun q o hq e=>up q o (by omega) (t7 q o (by omega) (by omega) (by omega) (by omega) (by omega) e)
theorem zip3_next_end {Q:Fin→Shared→Prop} (hh:A.handled=none) (Z:Z3 s.heap n .none b1 b2 b3 l1 l2 l3 k1 k2 k3 a b c) (g1:l1 < n) (g2:l2 < n) (g3:l3 < n)
  (hl1:SqA b1 s.heap l1 xs) (hend:xs[k1]?=none)
  (hE:∀ h' e,(∀ (q:Nat) o,q < n∨n + 5 < q→s.heap.get? q=some o→h'.get? q=some o)→(∃ o,h'.get? e=some o∧o.cls=.type "StopIteration")→E (.ref e) { s with heap:=h' }) :
  wpAny (model prog w) A (Builtin.«zip.__next__» ⟨[.ref (n + 5)],[]⟩) Q E s:=by
 obtain ⟨hz,hTI,hTO,h1,h2,h3⟩:=Z
 show wpAny _ _ (field (.ref (n + 5)) 2 >>= _) _ _ _
 refine wpAny_bind (wpAny_field hz rfl (x:=.bool false) rfl ?_)
 show wpAny _ _ (field (.ref (n + 5)) 3 >>= _) _ _ _
 refine wpAny_bind (wpAny_field hz rfl (x:=.ref (n + 3)) rfl ?_)
 refine wpAny_bind (wpAny_seqItems hTI rfl ?_)
 show wpAny _ _ (Builtin.SmallTypes.ownedTupleIsFree (.ref (n + 5)) >>= _) _ _ _
 refine wpAny_bind ?_
 unfold Builtin.SmallTypes.ownedTupleIsFree
 refine wpAny_bind (wpAny_field hz rfl (x:=.none) rfl (wpAny_pure ?_))
 simp only [if_true]
 refine wpAny_bind (wpAny_rule ?_)
 refine wpAny_bind (wpAny_field hz rfl (x:=.ref (n + 4)) rfl ?_)
 refine wpAny_bind (wpAny_setField_rec hz (by simp) fun h₁ hz₁ hs₁=>?_)
 replace hz₁:IsZip h₁ (n + 5) (n + 3) (n + 4) .ellipsis:=hz₁
 refine wpAny_bind ?_
 simp only [List.zipIdx_cons,List.zipIdx_nil,List.forIn_cons,List.forIn_nil]
 have e1:∀ (q:Nat) o,q ≠ n + 5→s.heap.get? q=some o→h₁.get? q=some o:=fun q o hq e=>hs₁.extBut _ _ hq e
 refine wpAny_bind (wpAny_bind (wpAny_onRaise ?_))
 show wpAny _ _ (Builtin.SmallTypes.nextOf (.ref n) >>= _) _ _ _
 refine wpAny_bind (nextOf_end hh (h1.at fun o e=>e1 _ o (by omega) e) (hl1.at fun o e=>e1 _ o (by omega) e) hend fun h₂ e hs₂ he=>?_)
 obtain ⟨oe,hoe,hce⟩:=he
 have hz₂:IsZip h₂ (n + 5) (n + 3) (n + 4) .ellipsis:=hs₂ _ _ (show (n + 5:Nat) ≠ n by omega) hz₁
 have hez:e ≠ n + 5:=fun x=>by subst x; rw [hz₂] at hoe; cases hoe; simp at hce
 refine wpAny_setField_rec hz₂ (by simp) fun h₃ _ hs₃=>hE h₃ e (fun q o hq x=>hs₃.extBut _ _ (show (q:Nat) ≠ n + 5 by omega) (hs₂ _ _ (show (q:Nat) ≠ n by omega) (e1 _ _ (by omega) x))) ⟨oe,hs₃.extBut _ _ hez hoe,hce⟩
theorem pyNext_zip3_item {Q:Option Value→Shared→Prop} (Z:Z3 s.heap n .none b1 b2 b3 l1 l2 l3 k1 k2 k3 a b c) (g1:l1 < n) (g2:l2 < n) (g3:l3 < n)
  (hl1:SqA b1 s.heap l1 xs) (hl2:SqA b2 s.heap l2 ys) (hl3:SqA b3 s.heap l3 zs) (hx:xs[k1]?=some x) (hy:ys[k2]?=some y) (hz':zs[k3]?=some z)
  (hQ:∀ h',Z3 h' n (rawInt s.heap.objs.size) b1 b2 b3 l1 l2 l3 (k1 + 1) (k2 + 1) (k3 + 1) x y z→IsTri h' s.heap.objs.size x y z→h'.objs.size=s.heap.objs.size + 1→
   (∀ (q:Nat) o,q < n∨n + 5 < q→s.heap.get? q=some o→h'.get? q=some o)→Q (some (.ref s.heap.objs.size)) { s with heap:=h' }) :
  wpAny (model prog w) A (pyNext (.ref (n + 5))) Q E s:=by
 have hT:s.TypeIs (.ref (n + 5)) "zip":=⟨_,Z.z,rfl⟩
 unfold pyNext
 exact wpAny_bind (wpAny_attempt (wpAny_callSpecial?_slot (name:=Str.ofString "__next__") hT F.slot_zip_next
  (wpAny_call_entry F.slot_zip_next hT F.entry_zip_next
   (zip3_next_item Z g1 g2 g3 hl1 hl2 hl3 hx hy hz' fun h' a1 a2 a3 a4=>wpAny_pure (hQ h' a1 a2 a3 a4)) (F.args_zip_next_1 _))))
theorem pyNext_zip3_end {Q:Option Value→Shared→Prop} (hh:A.handled=none) (Z:Z3 s.heap n .none b1 b2 b3 l1 l2 l3 k1 k2 k3 a b c) (g1:l1 < n) (g2:l2 < n) (g3:l3 < n)
  (hl1:SqA b1 s.heap l1 xs) (hend:xs[k1]?=none)
  (hQ:∀ h',(∀ (q:Nat) o,q < n∨n + 5 < q→s.heap.get? q=some o→h'.get? q=some o)→Q none { s with heap:=h' }):wpAny (model prog w) A (pyNext (.ref (n + 5))) Q E s:=by
 have hT:s.TypeIs (.ref (n + 5)) "zip":=⟨_,Z.z,rfl⟩
 unfold pyNext
 refine wpAny_bind (wpAny_attempt (wpAny_callSpecial?_slot (name:=Str.ofString "__next__") hT F.slot_zip_next
  (wpAny_call_entry F.slot_zip_next hT F.entry_zip_next (zip3_next_end hh Z g1 g2 g3 hl1 hend fun h' e hk he=>?_) (F.args_zip_next_1 _))))
 obtain ⟨o,ho,hc⟩:=he
 refine wpAny_bind (wpAny_isInstance (T:="StopIteration") (b:=true) ⟨o,ho,hc⟩ isSubtype_stop ?_)
 exact wpAny_pure (hQ _ hk)
end
theorem letGo_zip3 {elts:List Expr} {x1} {pos:Pos} {n T:Nat} {l1 l2 l3:Nat} {b1 b2 b3:Bool} {k1 k2 k3:Nat} {a b c:Value} {Q:Unit→Shared→Prop} (Z:Z3 s.heap n (rawInt T) b1 b2 b3 l1 l2 l3 k1 k2 k3 a b c)
  (hQ:∀ h',Z3 h' n .none b1 b2 b3 l1 l2 l3 k1 k2 k3 a b c→Heap.SameBut (n + 5) s.heap h'→Q () { s with heap:=h' }) :
  wpAny (model prog w) A (letOwnedTupleGo (.Tuple elts x1 pos) (.ref (n + 5)) (.ref T)) Q E s:=by
 refine wpAny_letOwnedTupleGo_zip Z.z fun h' hz' hs'=>hQ h' ⟨hz',hs'.extBut _ _ (show (n + 3:Nat) ≠ n + 5 by omega) Z.ti,hs'.extBut _ _ (show (n + 4:Nat) ≠ n + 5 by omega) Z.to,Z.i1.at fun o e=>hs'.extBut _ _ (show (n:Nat) ≠ n + 5 by omega) e,Z.i2.at fun o e=>hs'.extBut _ _ (show (n + 1:Nat) ≠ n + 5 by omega) e,Z.i3.at fun o e=>hs'.extBut _ _ (show (n + 2:Nat) ≠ n + 5 by omega) e⟩ hs'
theorem typeCall_zip_3 (a b c:Value):checkTypeCall "zip" ⟨[a,b,c],[]⟩=pure ():=by kernel_rfl
theorem newCall_zip_3 (a b c:Value):checkBuiltinCall "zip.__new__" ⟨[.type "zip",a,b,c],[]⟩=pure ():=by kernel_rfl
theorem args_object_init_4 (a b c d:Value):argsOk "object.__init__" ⟨[a,b,c,d],[]⟩:=by
 unfold argsOk; rw [signature?_of (id:="object.__init__") (n:=['_','_','t','i','n','i','_','_']) (o:=['t','c','e','j','b','o']) (by kernel_rfl) F.owner_object]; kernel_rfl
end
def itName:Bool→String
 |true=>"tuple_iterator"
 |false=>"list_iterator"
abbrev z3a (b1:Bool) (h:Heap) (l1:Addr):Heap:=h.push { cls:=.type (itName b1),data:=.fields #[.ref l1,.int 0 0] }
abbrev z3b (b1 b2:Bool) (h:Heap) (l1 l2:Addr):Heap:=(z3a b1 h l1).push { cls:=.type (itName b2),data:=.fields #[.ref l2,.int 0 0] }
abbrev z3c (b1 b2 b3:Bool) (h:Heap) (l1 l2 l3:Addr):Heap:=(z3b b1 b2 h l1 l2).push { cls:=.type (itName b3),data:=.fields #[.ref l3,.int 0 0] }
abbrev z3d (b1 b2 b3:Bool) (h:Heap) (l1 l2 l3:Addr):Heap:=(z3c b1 b2 b3 h l1 l2 l3).push { cls:=.type "tuple",data:=.seq #[.ref h.objs.size,.ref (z3a b1 h l1).objs.size,.ref (z3b b1 b2 h l1 l2).objs.size] }
abbrev z3e (b1 b2 b3:Bool) (h:Heap) (l1 l2 l3:Addr):Heap:=(z3d b1 b2 b3 h l1 l2 l3).push { cls:=.type "tuple",data:=.seq #[.none,.none,.none] }
abbrev z3f (b1 b2 b3:Bool) (h:Heap) (l1 l2 l3:Addr):Heap:=(z3e b1 b2 b3 h l1 l2 l3).push { cls:=.type "zip",data:=.fields #[.none,.bool false,.bool false,.ref (z3c b1 b2 b3 h l1 l2 l3).objs.size,.ref (z3d b1 b2 b3 h l1 l2 l3).objs.size] }
theorem meets_zip3_new (b1:Bool) (l1 l2 l3:Addr) (xs ys zs:Array Value) :
  Meets (Builtin.«zip.__new__» ⟨[.type "zip",.ref l1,.ref l2,.ref l3],[]⟩) (fun _ R s=>SqA b1 s.heap l1 xs∧SqA false s.heap l2 ys∧SqA true s.heap l3 zs∧
   R (.ok (.ret (.ref (z3e b1 false true s.heap l1 l2 l3).objs.size))) { s with heap:=z3f b1 false true s.heap l1 l2 l3 }):=
 .of_wp fun prog w A R s h=>by
  obtain ⟨hp,g,d,tk,os⟩:=s
  obtain ⟨hl1,hl2,hl3,h⟩:=h
  have hsub:=sub_zip
  cases b1
  ·have hL1:Heap.IsList (Shared.heap ⟨hp,g,d,tk,os⟩) l1 xs:=hl1
   have hL2:Heap.IsList (Shared.heap ⟨hp.push { cls:=.type "list_iterator",data:=.fields #[.ref l1,.int 0 0] },g,d,tk,os⟩) l2 ys:=Heap.IsList.push hl2 _
   have hL3:IsTup (Shared.heap ⟨(hp.push { cls:=.type "list_iterator",data:=.fields #[.ref l1,.int 0 0] }).push { cls:=.type "list_iterator",data:=.fields #[.ref l2,.int 0 0] },g,d,tk,os⟩) l3 zs:=IsTup.push (IsTup.push hl3 _) _
   wp_walk using wpAny_pyIter_list hL1,wpAny_pyIter_list hL2,iter_tuple hL3
   exact ⟨_,rfl,h⟩
  ·have hL1:IsTup (Shared.heap ⟨hp,g,d,tk,os⟩) l1 xs:=hl1
   have hL2:Heap.IsList (Shared.heap ⟨hp.push { cls:=.type "tuple_iterator",data:=.fields #[.ref l1,.int 0 0] },g,d,tk,os⟩) l2 ys:=Heap.IsList.push hl2 _
   have hL3:IsTup (Shared.heap ⟨(hp.push { cls:=.type "tuple_iterator",data:=.fields #[.ref l1,.int 0 0] }).push { cls:=.type "list_iterator",data:=.fields #[.ref l2,.int 0 0] },g,d,tk,os⟩) l3 zs:=IsTup.push (IsTup.push hl3 _) _
   wp_walk using iter_tuple hL1,wpAny_pyIter_list hL2,iter_tuple hL3
   exact ⟨_,rfl,h⟩
end L2
namespace L2
open PySem PySem.Spec PyProof.Rows
theorem six (q n:Nat) (h:¬ (q=n + 5∨q=n + 3∨q=n + 4∨q=n∨q=n + 1∨q=n + 2)):q < n∨n + 5 < q:=by omega
section
variable {prog:Program} {w:World} {A:Around} {E:Value→Shared→Prop} {s:Shared}
theorem call_zip_3 {b1:Bool} {l1 l2 l3:Addr} {xs ys zs:Array Value} {Q:Value→Shared→Prop} (hl1:SqA b1 s.heap l1 xs) (hl2:SqA false s.heap l2 ys) (hl3:SqA true s.heap l3 zs)
  (h:∀ h',Z3 h' s.heap.objs.size .none b1 false true l1 l2 l3 0 0 0 .none .none .none→h'.objs.size=s.heap.objs.size + 6→
   (∀ c o,s.heap.get? c=some o→h'.get? c=some o)→Q (.ref (s.heap.objs.size + 5)) { s with heap:=h' }) :
  wpAny (model prog w) A (call (.type "zip") [.ref l1,.ref l2,.ref l3]) Q E s:=by
 refine callType_new F.called_zip (by decide) (typeCall_zip_3 _ _ _) (newCall_zip_3 _ _ _) (fun obj=>args_object_init_4 obj _ _ _) F.entry_zip_new
  (meets_zip3_new b1 l1 l2 l3 xs ys zs) ⟨hl1,hl2,hl3,?_⟩
 have z1:(z3a b1 s.heap l1).objs.size=s.heap.objs.size + 1:=Heap.size_push ..
 have z2:(z3b b1 false s.heap l1 l2).objs.size=s.heap.objs.size + 2:=by rw [Heap.size_push,z1]
 have z3:(z3c b1 false true s.heap l1 l2 l3).objs.size=s.heap.objs.size + 3:=by rw [Heap.size_push,z2]
 have z4:(z3d b1 false true s.heap l1 l2 l3).objs.size=s.heap.objs.size + 4:=by rw [Heap.size_push,z3]
 have z5:(z3e b1 false true s.heap l1 l2 l3).objs.size=s.heap.objs.size + 5:=by rw [Heap.size_push,z4]
 have z6:(z3f b1 false true s.heap l1 l2 l3).objs.size=s.heap.objs.size + 6:=by rw [Heap.size_push,z5]
 have g6:(z3f b1 false true s.heap l1 l2 l3).get? (z3e b1 false true s.heap l1 l2 l3).objs.size=some _:=Heap.get?_push_size _ rfl
 have g5:(z3f b1 false true s.heap l1 l2 l3).get? (z3d b1 false true s.heap l1 l2 l3).objs.size=some _:=Heap.get?_push_of_some _ (Heap.get?_push_size _ rfl)
 have g4:(z3f b1 false true s.heap l1 l2 l3).get? (z3c b1 false true s.heap l1 l2 l3).objs.size=some _:=Heap.get?_push_of_some _ (Heap.get?_push_of_some _ (Heap.get?_push_size _ rfl))
 have g3:(z3f b1 false true s.heap l1 l2 l3).get? (z3b b1 false s.heap l1 l2).objs.size=some _:=Heap.get?_push_of_some _ (Heap.get?_push_of_some _ (Heap.get?_push_of_some _ (Heap.get?_push_size _ rfl)))
 have g2:(z3f b1 false true s.heap l1 l2 l3).get? (z3a b1 s.heap l1).objs.size=some _:=Heap.get?_push_of_some _ (Heap.get?_push_of_some _ (Heap.get?_push_of_some _ (Heap.get?_push_of_some _ (Heap.get?_push_size _ rfl))))
 have g1:(z3f b1 false true s.heap l1 l2 l3).get? s.heap.objs.size=some _:=Heap.get?_push_of_some _ (Heap.get?_push_of_some _ (Heap.get?_push_of_some _ (Heap.get?_push_of_some _ (Heap.get?_push_of_some _ (Heap.get?_push_size _ rfl)))))
 show _∧_
 rw [z3,z4,z5] at g6
 rw [z1,z2,z3] at g4
 rw [z4] at g5
 rw [z2] at g3
 rw [z1] at g2
 rw [z5]
 refine ⟨⟨_,g6,rfl⟩,h _ ⟨g6,g4,g5,?_,⟨_,g2,rfl,rfl⟩,⟨_,g3,rfl,rfl⟩⟩ z6 fun c o x=>
  Heap.get?_push_of_some _ (Heap.get?_push_of_some _ (Heap.get?_push_of_some _ (Heap.get?_push_of_some _ (Heap.get?_push_of_some _ (Heap.get?_push_of_some _ x)))))⟩
 cases b1
 ·exact ⟨_,g1,rfl,rfl⟩
 ·exact ⟨_,g1,rfl,rfl⟩
end
def Itz3 (K:PySem.W.Frag) (b1 b2 b3:Bool) (l1 l2 l3:Addr):It:=
 ⟨fun i H=>∃ (xs ys zs:List V) (x y z:V),SqV b1 K H l1 xs∧SqV b2 K H l2 ys∧SqV b3 K H l3 zs∧xs[i]?=some x∧ys[i]?=some y∧zs[i]?=some z,
  fun i H v H'=>∃ T x y z,v=.ref T∧H T=none∧H'=upd H T (.tup [x,y,z])∧(∀ xs,SqV b1 K H l1 xs→xs[i]?=some x)∧(∀ ys,SqV b2 K H l2 ys→ys[i]?=some y)∧∀ zs,SqV b3 K H l3 zs→zs[i]?=some z,
  fun i H=>∃ xs:List V,SqV b1 K H l1 xs∧xs.length≤i⟩
theorem turn_zip3 {P:Program} {w:World} {K:PySem.W.Frag} {elts:List Expr} {kk:Nat} {tpos:Pos} {b1 b2 b3:Bool} {n l1 l2 l3:Nat} (g1:l1 < n) (g2:l2 < n) (g3:l3 < n) :
  Turn P w K (.Tuple elts kk tpos) (Itz3 K b1 b2 b3 l1 l2 l3) [n + 5,n + 3,n + 4,n,n + 1,n + 2] (n + 5) (fun i h=>∃ a b c,Z3 h n .none b1 b2 b3 l1 l2 l3 i i i a b c) where
 mem:=by simp
 obj:=fun i h st q hq=>by
  obtain ⟨a,b,c,Z⟩:=st
  have e':q=n + 5∨q=n + 3∨q=n + 4∨q=n∨q=n + 1∨q=n + 2:=by simpa using hq
  rcases e' with e | e | e | e | e | e
  ·rw [e]; exact ⟨_,Z.z,fun v q=>nomatch q⟩
  ·rw [e]; exact ⟨_,Z.ti,fun v q=>nomatch q⟩
  ·rw [e]; exact ⟨_,Z.to,fun v q=>nomatch q⟩
  ·rw [e]; exact Z.i1.obj
  ·rw [e]; exact Z.i2.obj
  ·rw [e]; exact Z.i3.obj
 keep:=fun i h h' st k=>by
  obtain ⟨a,b,c,Z⟩:=st
  exact ⟨a,b,c,k _ (by simp) _ Z.z,k _ (by simp) _ Z.ti,k _ (by simp) _ Z.to,Z.i1.at fun o e=>k _ (by simp) o e,Z.i2.at fun o e=>k _ (by simp) o e,Z.i3.at fun o e=>k _ (by simp) o e⟩
 item:=by
  intro X hP hw hK hc i pins s σ H E I hf st hg
  subst hP hw hK
  obtain ⟨a,b,c,Z⟩:=st
  obtain ⟨xs,ys,zs,x,y,z,hqx,hqy,hqz,hx,hy,hz⟩:=hg
  obtain ⟨its,rv,p,_⟩:=I.sqv hqx
  obtain ⟨its2,rv2,p2,_⟩:=I.sqv hqy
  obtain ⟨its3,rv3,p3,_⟩:=I.sqv hqz
  obtain ⟨u,hu,ru⟩:=rv.get hx
  obtain ⟨u2,hu2,ru2⟩:=rv2.get hy
  obtain ⟨u3,hu3,ru3⟩:=rv3.get hz
  have hzl:n + 5 < s.heap.objs.size:=Heap.lt_size Z.z
  refine pyNext_zip3_item Z g1 g2 g3 p p2 p3 (x:=u) (y:=u2) (z:=u3) (by simpa using hu) (by simpa using hu2) (by simpa using hu3) fun h' Z' hT hsz hk=>?_
  refine ⟨_,rfl,letGo_zip3 (s:={ s with heap:=h' }) Z' fun h'' Z'' sb=>?_⟩
  have hne:s.heap.objs.size ≠ n + 5:=Nat.ne_of_gt hzl
  have hT2:h''.get? s.heap.objs.size=some { cls:=.type "tuple",data:=.seq #[u,u2,u3] }:=(sb.2 _ hne).trans hT
  have new:ObjOk X.prog X.w (upd H s.heap.objs.size (.tup [x,y,z])) h'' s.heap.objs.size (.tup [x,y,z]):=
   ⟨by show 3≤sizeLine; decide,[u,u2,u3],.cons ru (.cons ru2 (.cons ru3 .nil)),⟨_,hT2,rfl,_,rfl⟩⟩
  have I1:Inv X pins σ (upd H s.heap.objs.size (.tup [x,y,z])) { s with heap:=h'' }:=by
   refine I.turnedNew (t':=s.toks) (ch:=[n + 5,n + 3,n + 4,n,n + 1,n + 2]) (fun q o hb e=>?_) hf (Nat.le_refl _) new
   have hb':¬ (q=n + 5∨q=n + 3∨q=n + 4∨q=n∨q=n + 1∨q=n + 2):=fun z=>hb (by simpa using z)
   exact (sb.2 q (fun z=>hb' (.inl z))).trans (hk q o (six q n hb') e)
  refine ⟨.ref s.heap.objs.size,_,I1,rfl,⟨_,x,y,z,rfl,I.hok.fresh (Nat.le_refl _),rfl,fun l hl=>by rw [I.sqv_inj hl hqx]; exact hx,fun l hl=>by rw [I.sqv_inj hl hqy]; exact hy,fun l hl=>by rw [I.sqv_inj hl hqz]; exact hz⟩,⟨_,_,_,Z''⟩,fun q hq=>?_⟩
  have hlt:q < s.heap.objs.size:=by
   have e':q=n + 5∨q=n + 3∨q=n + 4∨q=n∨q=n + 1∨q=n + 2:=by simpa using hq
   rcases e' with e | e | e | e | e | e
   ·rw [e]; exact hzl
   ·rw [e]; exact Heap.lt_size Z.ti
   ·rw [e]; exact Heap.lt_size Z.to
   ·rw [e]; obtain ⟨_,e1,_⟩:=Z.i1.obj; exact Heap.lt_size e1
   ·rw [e]; obtain ⟨_,e1,_⟩:=Z.i2.obj; exact Heap.lt_size e1
   ·rw [e]; obtain ⟨_,e1,_⟩:=Z.i3.obj; exact Heap.lt_size e1
  rw [upd_ne (Nat.ne_of_lt hlt)]
  exact (hf q hq).1
 done:=by
  intro X hP hw hK hc i pins s σ H E I hf st hg
  subst hP hw hK
  obtain ⟨a,b,c,Z⟩:=st
  obtain ⟨xs,hqx,hend⟩:=hg
  obtain ⟨its,rv,p,_⟩:=I.sqv hqx
  have hl:=rv.length
  refine pyNext_zip3_end (I.ok.hd hc) Z g1 g2 g3 p (by simp; omega) fun h' hk=>⟨rfl,I.turnedL (t':=s.toks) (ch:=[n + 5,n + 3,n + 4,n,n + 1,n + 2]) (fun q o hb e=>?_) hf⟩
  have hb':¬ (q=n + 5∨q=n + 3∨q=n + 4∨q=n∨q=n + 1∨q=n + 2):=fun z=>hb (by simpa using z)
  exact hk q o (six q n hb') e
 self:=fun A i s Q E st h=>by
  obtain ⟨a,b,c,Z⟩:=st
  exact wpAny_pyIter_zip Z.z h
def iZip3 (K:PySem.W.Frag) (b1:Bool) (ta:TA):TI:=fun σ H R=>ta σ H fun vs H1=>∃ l1 l2 l3 xs ys zs,vs=[.ref l1,.ref l2,.ref l3]∧SqV b1 K H1 l1 xs∧SqL K H1 l2 ys∧SqT K H1 l3 zs∧R (Itz3 K b1 false true l1 l2 l3) H1
theorem pi_zip3 {X:Cx} (b1:Bool) {e e2 e3:Expr} {ta:TA} {p pos tpos:Pos} {elts:List Expr} {kk:Nat} (hg:Gl X "zip") (hm:X.mg "zip"=none) (ha:PA X [e,e2,e3] ta)
  (hs:starEach [e,e2,e3] X.env=(false,eval e X.env)::starEach [e2,e3] X.env:=by rfl) (hpl:(backTo pos (starEach [e2,e3] X.env)).any (·.1)=false:=by rfl) :
  PI X (.Tuple elts kk tpos) (.Call (.Name "zip" p) [e,e2,e3] [] pos) (iZip3 X.K b1 ta):=by
 intro pins s σ H R I h
 refine Call_ (ld_blt I hg hm boot_zip5 (PyProof.Rows.callWith_type1 (thn (ha pos pins s σ H _ I h) fun us s1 ⟨vs,H1,I1,r1,q1⟩=>?_) hs hpl))
 obtain ⟨l1,l2,l3,xs,ys,zs,ex,hqx,hqy,hqz,q⟩:=q1
 subst ex
 cases r1 with
 |cons r rr=>
  cases rr with
  |cons r' rr=>
   cases rr with
   |cons r'' rr=>
    cases rr
    cases r
    cases r'
    cases r''
    obtain ⟨its,rv,p1,_⟩:=I1.sqv hqx
    obtain ⟨its2,rv2,p2,_⟩:=I1.sqv (b:=false) hqy
    obtain ⟨its3,rv3,p3,_⟩:=I1.sqv (b:=true) hqz
    refine call_zip_3 p1 p2 p3 fun h' Z hsz hk=>wpAny_pyIter_zip Z.z ?_
    have I2:Inv X pins σ H1 { s1 with heap:=h' }:=I1.kept (t':=s1.toks) hk
    refine ⟨s1.heap.objs.size + 5,[s1.heap.objs.size + 5,s1.heap.objs.size + 3,s1.heap.objs.size + 4,s1.heap.objs.size,s1.heap.objs.size + 1,s1.heap.objs.size + 2],_,_,H1,rfl,I2,turn_zip3 p1.lt p2.lt p3.lt,⟨_,_,_,Z⟩,fun c hcm=>?_,q⟩
    have hle:s1.heap.objs.size≤c:=by
     have e':c=s1.heap.objs.size + 5∨c=s1.heap.objs.size + 3∨c=s1.heap.objs.size + 4∨c=s1.heap.objs.size∨c=s1.heap.objs.size + 1∨c=s1.heap.objs.size + 2:=by simpa using hcm
     rcases e' with z | z | z | z | z | z <;> rw [z] <;> first | exact Nat.le_add_right _ _ | exact Nat.le_refl _
    exact I1.fpOk hle (I1.hok.fresh hle)
end L2
namespace Rp
open Vbexai
theorem hole_eq (x c:Nat):hole x c=x.testBit c:=by
 unfold hole
 rw [Nat.testBit_eq_decide_div_mod_eq]
 by_cases h:x / 2 ^ c % 2=1 <;> simp [h]
theorem add_bit {a c:Nat} (h:a.testBit c=false):a + 2 ^ c=a ||| 2 ^ c:=by
 have e:a=2 ^ (c + 1) * (a / 2 ^ (c + 1)) + a % 2 ^ (c + 1):=(Nat.div_add_mod _ _).symm
 have hp:0 < 2 ^ c:=Nat.two_pow_pos c
 have hs:2 ^ (c + 1)=2 * 2 ^ c:=by rw [Nat.pow_succ,Nat.mul_comm]
 have hr:a % 2 ^ (c + 1) < 2 ^ c:=by
  have h1:a % 2 ^ (c + 1) < 2 ^ (c + 1):=Nat.mod_lt _ (Nat.two_pow_pos _)
  have h2:(a % 2 ^ (c + 1)).testBit c=false:=by
   rw [Nat.testBit_mod_two_pow,h,Bool.and_false]
  rw [Nat.testBit_eq_decide_div_mod_eq] at h2
  have h3:¬ (a % 2 ^ (c + 1) / 2 ^ c % 2=1):=of_decide_eq_false h2
  have h4:a % 2 ^ (c + 1) / 2 ^ c < 2:=Nat.div_lt_of_lt_mul (by rw [Nat.mul_comm]; omega)
  have h5:a % 2 ^ (c + 1) / 2 ^ c=0:=by
   generalize a % 2 ^ (c + 1) / 2 ^ c=z at h3 h4
   omega
  rcases Nat.div_eq_zero_iff.mp h5 with h6 | h6
  ·omega
  ·exact h6
 generalize hq:a / 2 ^ (c + 1)=q at e
 generalize hm:a % 2 ^ (c + 1)=r at e hr
 have e2:a + 2 ^ c=2 ^ (c + 1) * q + (r + 2 ^ c):=by omega
 rw [e2,← Nat.or_two_pow_eq_add_of_lt hr,Nat.two_pow_add_eq_or_of_lt (by rw [Nat.or_two_pow_eq_add_of_lt hr]; omega)]
 rw [e,Nat.two_pow_add_eq_or_of_lt (by omega),Nat.or_assoc]
theorem sumBits_step (a c:Nat):(if hole a c=true then a else a + 2 ^ c)=a ||| 2 ^ c:=by
 by_cases h:hole a c=true
 ·rw [if_pos h]
  rw [hole_eq] at h
  apply Nat.eq_of_testBit_eq
  intro i
  rw [Nat.testBit_or,Nat.testBit_two_pow]
  by_cases hi:c=i
  ·subst hi
   rw [h]; rfl
  ·simp [hi]
 ·rw [if_neg h]
  rw [hole_eq] at h
  exact add_bit (by simpa using h)
def orAll (a:Nat) (l:List Nat):Nat:=l.foldl (fun a c=>a ||| 2 ^ c) a
theorem sumBits_or (l:List Nat):sumBits l=orAll 0 l:=by
 unfold sumBits orAll
 congr 1
 funext a c
 exact sumBits_step a c
theorem orAll_bit (l:List Nat):∀ (a i:Nat),(orAll a l).testBit i=(a.testBit i || decide (i ∈ l)):=by
 induction l with
 |nil=>intro a i; simp [orAll]
 |cons c l ih=>
  intro a i
  have e:orAll a (c::l)=orAll (a ||| 2 ^ c) l:=rfl
  rw [e,ih,Nat.testBit_or,Nat.testBit_two_pow]
  by_cases hc:c=i
  ·subst hc; simp
  ·have hc':¬ i=c:=fun h=>hc h.symm
   simp [hc,hc']
theorem sorted_ext:∀ {l m:List Nat},l.Pairwise (· < ·)→m.Pairwise (· < ·)→(∀ x,x ∈ l↔x ∈ m)→l=m
 | [],[],_,_,_=>rfl
 | [],b::m,_,_,h=>by have:=(h b).mpr (by simp); simp at this
 |a::l,[],_,_,h=>by have:=(h a).mp (by simp); simp at this
 |a::l,b::m,hl,hm,h=>by
  rw [List.pairwise_cons] at hl hm
  have hab:a=b:=by
   have h1:=(h a).mp (by simp)
   have h2:=(h b).mpr (by simp)
   rw [List.mem_cons] at h1 h2
   rcases h1 with h1 | h1
   ·exact h1
   ·rcases h2 with h2 | h2
    ·exact h2.symm
    ·have:=hl.1 b h2
     have:=hm.1 a h1
     omega
  subst hab
  rw [sorted_ext hl.2 hm.2]
  intro x
  constructor
  ·intro hx
   have h1:=(h x).mp (List.mem_cons_of_mem _ hx)
   rw [List.mem_cons] at h1
   rcases h1 with h1 | h1
   ·subst h1; have:=hl.1 x hx; omega
   ·exact h1
  ·intro hx
   have h1:=(h x).mpr (List.mem_cons_of_mem _ hx)
   rw [List.mem_cons] at h1
   rcases h1 with h1 | h1
   ·subst h1; have:=hm.1 x hx; omega
   ·exact h1
theorem mem_dedupe:∀ (l:List Nat) (x:Nat),x ∈ dedupe l↔x ∈ l
 | [],x=>by simp [dedupe]
 | [a],x=>by simp [dedupe]
 |a::b::l,x=>by
  unfold dedupe
  by_cases h:a=b
  ·subst h
   rw [if_pos rfl,mem_dedupe (a::l) x]; simp
  ·rw [if_neg h,List.mem_cons,mem_dedupe (b::l) x,List.mem_cons (a:=x) (b:=a)]
theorem dedupe_sorted:∀ (l:List Nat),l.Pairwise (·≤·)→(dedupe l).Pairwise (· < ·)
 | [],_=>by simp [dedupe]
 | [a],_=>by simp [dedupe]
 |a::b::l,h=>by
  unfold dedupe
  rw [List.pairwise_cons] at h
  have ih:=dedupe_sorted (b::l) h.2
  by_cases e:a=b
  ·rw [if_pos e]; exact ih
  ·rw [if_neg e,List.pairwise_cons]
   refine ⟨fun x hx=>?_,ih⟩
   rw [mem_dedupe] at hx
   have h1:=h.1 b (by simp)
   have h2:=h.2
   rw [List.pairwise_cons] at h2
   rw [List.mem_cons] at hx
   rcases hx with hx | hx
   ·omega
   ·have:=h2.1 x hx; omega
theorem mem_tidy (l:List Nat) (x:Nat):x ∈ tidy l↔x ∈ l:=by
 unfold tidy
 rw [mem_dedupe,List.mem_mergeSort]
theorem tidy_sorted (l:List Nat):(tidy l).Pairwise (· < ·):=by
 unfold tidy
 refine dedupe_sorted _ ?_
 have h:=List.pairwise_mergeSort (le:=fun a b:Nat=>decide (a≤b)) (by intro a b c h1 h2; simp at *; omega) (by intro a b; simp; omega) l
 exact h.imp (by intro a b h; simpa using h)
theorem worldsOf_sorted (f:Form):∀ k,(worldsOf f k).Pairwise (· < ·)
 | 0=>by simp [worldsOf]
 |k + 1=>tidy_sorted _
def ones (f:Form):List Nat:=(crevasses f).map sumBits
theorem mem_worlds_succ (f:Form) (k x:Nat):x ∈ worldsOf f (k + 1)↔x ∈ worldsOf f k∨∃ a ∈ worldsOf f k,∃ b ∈ ones f,x=a ||| b:=by
 show x ∈ tidy _↔_
 rw [mem_tidy,List.mem_append,List.mem_flatMap]
 constructor
 ·rintro (h | ⟨a,ha,h⟩)
  ·exact .inl h
  ·rw [List.mem_map] at h
   obtain ⟨b,hb,rfl⟩:=h
   rw [mem_tidy] at hb
   exact .inr ⟨a,ha,b,hb,rfl⟩
 ·rintro (h | ⟨a,ha,b,hb,rfl⟩)
  ·exact .inl h
  ·exact .inr ⟨a,ha,List.mem_map.mpr ⟨b,(mem_tidy _ _).mpr hb,rfl⟩⟩
theorem worlds_sorted (f:Form):(worlds f).Pairwise (· < ·):=worldsOf_sorted f _
theorem filter_sorted {l:List Nat} (p:Nat→Bool) (h:l.Pairwise (· < ·)):(l.filter p).Pairwise (· < ·):=h.filter p
end Rp
namespace Rp
open Vbexai
def row (start step n:Nat):Nat:=orAll 0 ((List.range n).map fun k=>start + k * step)
theorem row_succ (start step n:Nat):row start step (n + 1)=row start step n ||| 2 ^ (start + n * step):=by
 unfold row orAll
 rw [List.range_succ,List.map_append,List.foldl_append]
 rfl
def Val (f:Form) (L n:Nat):Prop:=
 (∃ y,y < f.h∧∃ x,x < f.w + 1 - L∧n=row (y * f.w + x) 1 L)∨(∃ y,y < f.h + 1 - L∧∃ x,x < f.w∧n=row (y * f.w + x) f.w L)
theorem cell_lt {w h x y:Nat} (hx:x < w) (hy:y < h):y * w + x < w * h:=by
 have h1:(y + 1) * w≤h * w:=Nat.mul_le_mul_right w hy
 rw [Nat.add_mul,Nat.one_mul] at h1
 rw [Nat.mul_comm w h]
 omega
theorem cell_mod {w x:Nat} (y:Nat) (hx:x < w):(y * w + x) % w=x:=by
 rw [Nat.mul_comm,Nat.mul_add_mod]
 exact Nat.mod_eq_of_lt hx
theorem cell_div {w x:Nat} (y:Nat) (hx:x < w):(y * w + x) / w=y:=by
 rw [Nat.mul_comm,Nat.mul_add_div (by omega),Nat.div_eq_of_lt hx]
 rfl
theorem cell_eq (w c:Nat):c / w * w + c % w=c:=by
 rw [Nat.mul_comm]; exact Nat.div_add_mod c w
theorem mod_lt_w {f:Form} {c:Nat} (h:c < f.w * f.h):c % f.w < f.w:=by
 refine Nat.mod_lt _ ?_
 rcases Nat.eq_zero_or_pos f.w with e | e
 ·rw [e] at h; simp at h
 ·exact e
theorem div_lt_h {f:Form} {c:Nat} (h:c < f.w * f.h):c / f.w < f.h:=Nat.div_lt_of_lt_mul h
theorem ones_iff (f:Form) (n:Nat) (hl:1≤f.least):n ∈ ones f↔∃ k,k < f.most + 1 - f.least∧Val f (f.least + k) n:=by
 unfold ones crevasses
 rw [List.mem_map]
 constructor
 ·rintro ⟨l,hl',rfl⟩
  rw [List.mem_flatMap] at hl'
  obtain ⟨k,hk,hl'⟩:=hl'
  rw [List.mem_range] at hk
  rw [List.mem_flatMap] at hl'
  obtain ⟨c,hc,hl'⟩:=hl'
  have hc':c < f.w * f.h:=List.mem_range.mp hc
  rw [List.mem_filterMap] at hl'
  obtain ⟨down,_,hl'⟩:=hl'
  refine ⟨k,hk,?_⟩
  have hx:=mod_lt_w hc'
  have hy:=div_lt_h hc'
  rw [sumBits_or]
  cases down with
  |true=>
   have e:rowFrom f c (f.least + k) true=(if yOf f c + (f.least + k)≤f.h then some ((List.range (f.least + k)).map fun i=>c + i * f.w) else none):=rfl
   rw [e] at hl'
   split at hl'
   ·rename_i h1
    unfold yOf at h1
    cases hl'
    refine .inr ⟨c / f.w,by omega,c % f.w,hx,?_⟩
    rw [cell_eq]; rfl
   ·cases hl'
  |false=>
   have e:rowFrom f c (f.least + k) false=(if xOf f c + (f.least + k)≤f.w then some ((List.range (f.least + k)).map fun i=>c + i) else none):=rfl
   rw [e] at hl'
   split at hl'
   ·rename_i h1
    unfold xOf at h1
    cases hl'
    refine .inl ⟨c / f.w,hy,c % f.w,by omega,?_⟩
    rw [cell_eq]
    unfold row
    simp only [Nat.mul_one]
   ·cases hl'
 ·rintro ⟨k,hk,(⟨y,hy,x,hx,rfl⟩ | ⟨y,hy,x,hx,rfl⟩)⟩
  ·refine ⟨(List.range (f.least + k)).map fun i=>(y * f.w + x) + i,?_,?_⟩
   ·rw [List.mem_flatMap]
    refine ⟨k,List.mem_range.mpr hk,?_⟩
    rw [List.mem_flatMap]
    have hxw:x < f.w:=by omega
    refine ⟨y * f.w + x,List.mem_range.mpr (cell_lt hxw hy),?_⟩
    rw [List.mem_filterMap]
    refine ⟨false,by simp,?_⟩
    show (if xOf f _ + (f.least + k)≤f.w then _ else _)=_
    rw [if_pos (by unfold xOf; rw [cell_mod y hxw]; omega)]
   ·rw [sumBits_or]
    unfold row
    simp only [Nat.mul_one]
  ·refine ⟨(List.range (f.least + k)).map fun i=>(y * f.w + x) + i * f.w,?_,?_⟩
   ·rw [List.mem_flatMap]
    refine ⟨k,List.mem_range.mpr hk,?_⟩
    rw [List.mem_flatMap]
    refine ⟨y * f.w + x,List.mem_range.mpr (cell_lt hx (by omega)),?_⟩
    rw [List.mem_filterMap]
    refine ⟨true,by simp,?_⟩
    show (if yOf f _ + (f.least + k)≤f.h then _ else _)=_
    rw [if_pos (by unfold yOf; rw [cell_div y hx]; omega)]
   ·rw [sumBits_or]; rfl
theorem row_bit (start step n i:Nat):(row start step n).testBit i=decide (∃ k,k < n∧i=start + k * step):=by
 unfold row
 rw [orAll_bit]
 simp only [Nat.zero_testBit,Bool.false_or,decide_eq_decide,List.mem_map,List.mem_range]
 constructor
 ·rintro ⟨k,h1,h2⟩; exact ⟨k,h1,h2.symm⟩
 ·rintro ⟨k,h1,h2⟩; exact ⟨k,h1,h2.symm⟩
theorem lt_pow_of_bits {x n:Nat} (h:∀ i,x.testBit i=true→i < n):x < 2 ^ n:=by
 refine Nat.lt_pow_two_of_testBit x fun i hi=>?_
 cases e:x.testBit i with
 |false=>rfl
 |true=>have:=h i e; omega
theorem ones_lt (f:Form) {n:Nat} (hl:1≤f.least) (h:n ∈ ones f):n < 2 ^ (f.w * f.h):=by
 rw [ones_iff f n hl] at h
 obtain ⟨k,hk,(⟨y,hy,x,hx,rfl⟩ | ⟨y,hy,x,hx,rfl⟩)⟩:=h
 ·refine lt_pow_of_bits fun i hi=>?_
  rw [row_bit,decide_eq_true_eq] at hi
  obtain ⟨j,hj,rfl⟩:=hi
  have:=cell_lt (w:=f.w) (h:=f.h) (x:=x + j * 1) (y:=y) (by omega) hy
  omega
 ·refine lt_pow_of_bits fun i hi=>?_
  rw [row_bit,decide_eq_true_eq] at hi
  obtain ⟨j,hj,rfl⟩:=hi
  have:=cell_lt (w:=f.w) (h:=f.h) (x:=x) (y:=y + j) hx (by omega)
  rw [Nat.add_mul] at this
  omega
theorem worldsOf_lt (f:Form) (hl:1≤f.least):∀ (k:Nat) {x:Nat},x ∈ worldsOf f k→x < 2 ^ (f.w * f.h)
 | 0,x,h=>by
  simp [worldsOf] at h
  subst h
  exact Nat.two_pow_pos _
 |k + 1,x,h=>by
  rw [mem_worlds_succ] at h
  rcases h with h | ⟨a,ha,b,hb,rfl⟩
  ·exact worldsOf_lt f hl k h
  ·exact Nat.or_lt_two_pow (worldsOf_lt f hl k ha) (ones_lt f hl hb)
end Rp
namespace Rp
open Vbexai
def follow (f:Form) (ok:Nat→Bool):Nat→List Nat→Option Nat
 |c,[]=>some c
 |c,d::p=>match toward f c d with
  |none=>none
  |some q=>if ok q=true then follow f ok q p else none
theorem follow_append (f:Form) (ok:Nat→Bool):∀ (p:List Nat) (c:Nat) (r:List Nat),follow f ok c (p ++ r)=(match follow f ok c p with | none=>none | some q=>follow f ok q r)
 | [],c,r=>rfl
 |d::p,c,r=>by
  show (match toward f c d with | none=>none | some q=>if ok q=true then follow f ok q (p ++ r) else none)=(match (match toward f c d with | none=>none | some q=>if ok q=true then follow f ok q p else none) with | none=>none | some q=>follow f ok q r)
  cases toward f c d with
  |none=>rfl
  |some q=>
   dsimp only
   by_cases h:ok q=true
   ·rw [if_pos h,if_pos h]; exact follow_append f ok p q r
   ·rw [if_neg h,if_neg h]
theorem follow_one {f:Form} {ok:Nat→Bool} {c d q:Nat}:follow f ok c [d]=some q↔toward f c d=some q∧ok q=true:=by
 unfold follow
 cases toward f c d with
 |none=>simp
 |some z=>
  dsimp only
  unfold follow
  by_cases h:ok z=true
  ·rw [if_pos h]
   constructor
   ·intro e; cases e; exact ⟨rfl,h⟩
   ·intro e; exact e.1
  ·rw [if_neg h]
   constructor
   ·intro e; cases e
   ·rintro ⟨e,h2⟩; cases e; exact absurd h2 h
theorem follow_cons {f:Form} {ok:Nat→Bool} {c d b:Nat} {p:List Nat}:follow f ok c (d::p)=some b↔∃ q,toward f c d=some q∧ok q=true∧follow f ok q p=some b:=by
 show (match toward f c d with | none=>none | some q=>if ok q=true then follow f ok q p else none)=some b↔_
 cases toward f c d with
 |none=>simp
 |some z=>
  dsimp only
  by_cases h:ok z=true
  ·rw [if_pos h]
   constructor
   ·intro e; exact ⟨z,rfl,h,e⟩
   ·rintro ⟨q,e,_,h2⟩; cases e; exact h2
  ·rw [if_neg h]
   constructor
   ·intro e; cases e
   ·rintro ⟨q,e,h2,_⟩; cases e; exact absurd h2 h
theorem follow_snoc {f:Form} {ok:Nat→Bool} {c d b:Nat} {p:List Nat}:follow f ok c (p ++ [d])=some b↔∃ q,follow f ok c p=some q∧toward f q d=some b∧ok b=true:=by
 rw [follow_append]
 cases follow f ok c p with
 |none=>simp
 |some q=>
  dsimp only
  rw [follow_one]
  constructor
  ·intro h; exact ⟨q,rfl,h⟩
  ·rintro ⟨q',e,h⟩; cases e; exact h
theorem follow_ok {f:Form} {ok:Nat→Bool}:∀ {p:List Nat} {c b:Nat},ok c=true→follow f ok c p=some b→ok b=true
 | [],c,b,h,e=>by cases e; exact h
 |d::p,c,b,h,e=>by
  rw [follow_cons] at e
  obtain ⟨q,_,hq,e⟩:=e
  exact follow_ok hq e
def Lx:List Nat→List Nat→Prop
 | [],_=>True
 |_::_,[]=>False
 |a::p,b::q=>a < b∨(a=b∧Lx p q)
def Ls:List Nat→List Nat→Prop
 | [],_=>False
 |_::_,[]=>False
 |a::p,b::q=>a < b∨(a=b∧Ls p q)
theorem Lx.anti:∀ {p q:List Nat},p.length=q.length→Lx p q→Lx q p→p=q
 | [],[],_,_,_=>rfl
 | [],_::_,h,_,_=>by simp at h
 |_::_,[],h,_,_=>by simp at h
 |a::p,b::q,h,h1,h2=>by
  have hl:p.length=q.length:=by simpa using h
  unfold Lx at h1 h2
  have e:a=b:=by omega
  subst e
  rw [Lx.anti hl (h1.resolve_left (by omega)).2 (h2.resolve_left (by omega)).2]
theorem Lx.refl:∀ p:List Nat,Lx p p
 | []=>trivial
 |a::p=>.inr ⟨rfl,Lx.refl p⟩
theorem Ls.lx_trans:∀ {p q r:List Nat},q.length=r.length→Ls p q→Lx q r→Ls p r
 | [],_,_,_,h,_=>h.elim
 |_::_,[],_,_,h,_=>h.elim
 |_::_,_::_,[],h,_,_=>by simp at h
 |a::p,b::q,c::r,hl,h1,h2=>by
  have hl':q.length=r.length:=by simpa using hl
  unfold Ls at h1 ⊢
  unfold Lx at h2
  rcases h1 with h1 | ⟨h1,h3⟩
  ·rcases h2 with h2 | ⟨h2,_⟩
   ·exact .inl (by omega)
   ·exact .inl (by omega)
  ·rcases h2 with h2 | ⟨h2,h4⟩
   ·exact .inl (by omega)
   ·exact .inr ⟨by omega,h3.lx_trans hl' h4⟩
theorem Ls.snoc:∀ {p q:List Nat} (a b:List Nat),Ls p q→Ls (p ++ a) (q ++ b)
 | [],_,_,_,h=>h.elim
 |_::_,[],_,_,h=>h.elim
 |x::p,y::q,a,b,h=>by
  unfold Ls at h
  show Ls (x::(p ++ a)) (y::(q ++ b))
  unfold Ls
  rcases h with h | ⟨h,h2⟩
  ·exact .inl h
  ·exact .inr ⟨h,h2.snoc a b⟩
theorem Ls.lx:∀ {p q:List Nat},Ls p q→Lx p q
 | [],_,h=>h.elim
 |_::_,[],h=>h.elim
 |x::p,y::q,h=>by
  unfold Ls at h
  unfold Lx
  rcases h with h | ⟨h,h2⟩
  ·exact .inl h
  ·exact .inr ⟨h,h2.lx⟩
theorem Lx.cases:∀ {p q:List Nat},p.length=q.length→Lx p q→Ls p q∨p=q
 | [],[],_,_=>.inr rfl
 | [],_::_,h,_=>by simp at h
 |_::_,[],h,_=>by simp at h
 |a::p,b::q,hl,h=>by
  have hl':p.length=q.length:=by simpa using hl
  unfold Lx at h
  rcases h with h | ⟨h,h2⟩
  ·exact .inl (.inl h)
  ·subst h
   rcases h2.cases hl' with h3 | h3
   ·exact .inl (.inr ⟨rfl,h3⟩)
   ·subst h3; exact .inr rfl
theorem ls_same:∀ (p:List Nat) {a b:Nat},a < b→Ls (p ++ [a]) (p ++ [b])
 | [],a,b,h=>.inl h
 |x::p,a,b,h=>.inr ⟨rfl,ls_same p h⟩
section
variable {α:Type} (t:α→Option Nat) (mk:α→Nat→Walk)
def picks:List α→List Nat→List Walk
 | [],_=>[]
 |e::l,seen=>match t e with
  |none=>picks l seen
  |some q=>if seen.contains q=true then picks l seen else mk e q::picks l (q::seen)
def seens:List α→List Nat→List Nat
 | [],seen=>seen
 |e::l,seen=>match t e with
  |none=>seens l seen
  |some q=>if seen.contains q=true then seens l seen else seens l (q::seen)
def pstep (y:List Walk × List Nat) (e:α):List Walk × List Nat:=match t e with
 |none=>y
 |some q=>if y.2.contains q=true then y else (y.1 ++ [mk e q],q::y.2)
theorem pstep_all:∀ (l:List α) (out:List Walk) (seen:List Nat),l.foldl (pstep t mk) (out,seen)=(out ++ picks t mk l seen,seens t l seen)
 | [],out,seen=>by simp [picks,seens]
 |e::l,out,seen=>by
  rw [List.foldl_cons]
  unfold picks seens
  have e1:pstep t mk (out,seen) e=(match t e with | none=>(out,seen) | some q=>if seen.contains q=true then (out,seen) else (out ++ [mk e q],q::seen)):=rfl
  rw [e1]
  cases t e with
  |none=>dsimp only; rw [pstep_all l]
  |some q=>
   dsimp only
   by_cases h:seen.contains q=true
   ·rw [if_pos h,if_pos h,if_pos h,pstep_all l]
   ·rw [if_neg h,if_neg h,if_neg h,pstep_all l,List.append_assoc]
    rfl
theorem mem_seens:∀ (l:List α) (seen:List Nat) (q:Nat),q ∈ seens t l seen↔q ∈ seen∨∃ e ∈ l,t e=some q
 | [],seen,q=>by simp [seens]
 |e::l,seen,q=>by
  unfold seens
  cases h:t e with
  |none=>
   dsimp only
   rw [mem_seens l]
   simp [h]
  |some z=>
   dsimp only
   by_cases hz:seen.contains z=true
   ·rw [if_pos hz,mem_seens l]
    rw [List.contains_iff_mem] at hz
    constructor
    ·rintro (a | ⟨e',h1,h2⟩)
     ·exact .inl a
     ·exact .inr ⟨e',List.mem_cons_of_mem _ h1,h2⟩
    ·rintro (a | ⟨e',h1,h2⟩)
     ·exact .inl a
     ·rw [List.mem_cons] at h1
      rcases h1 with rfl | h1
      ·rw [h] at h2; cases h2; exact .inl hz
      ·exact .inr ⟨e',h1,h2⟩
   ·rw [if_neg hz,mem_seens l]
    constructor
    ·rintro (a | ⟨e',h1,h2⟩)
     ·rw [List.mem_cons] at a
      rcases a with rfl | a
      ·exact .inr ⟨e,by simp,h⟩
      ·exact .inl a
     ·exact .inr ⟨e',List.mem_cons_of_mem _ h1,h2⟩
    ·rintro (a | ⟨e',h1,h2⟩)
     ·exact .inl (List.mem_cons_of_mem _ a)
     ·rw [List.mem_cons] at h1
      rcases h1 with rfl | h1
      ·rw [h] at h2; cases h2; exact .inl (by simp)
      ·exact .inr ⟨e',h1,h2⟩
theorem seens_nodup:∀ (l:List α) (seen:List Nat),seen.Nodup→(seens t l seen).Nodup
 | [],seen,h=>h
 |e::l,seen,h=>by
  unfold seens
  cases t e with
  |none=>exact seens_nodup l seen h
  |some z=>
   dsimp only
   by_cases hz:seen.contains z=true
   ·rw [if_pos hz]; exact seens_nodup l seen h
   ·rw [if_neg hz]
    refine seens_nodup l _ (List.nodup_cons.mpr ⟨?_,h⟩)
    intro hm
    exact hz (List.contains_iff_mem.mpr hm)
theorem seens_len:∀ (l:List α) (seen:List Nat),(seens t l seen).length=seen.length + (picks t mk l seen).length
 | [],seen=>rfl
 |e::l,seen=>by
  unfold seens picks
  cases t e with
  |none=>exact seens_len l seen
  |some z=>
   dsimp only
   by_cases hz:seen.contains z=true
   ·rw [if_pos hz,if_pos hz]; exact seens_len l seen
   ·rw [if_neg hz,if_neg hz,seens_len l,List.length_cons,List.length_cons]; omega
theorem picks_mem (R:α→α→Prop):∀ (l:List α) (seen:List Nat),l.Pairwise R→∀ u ∈ picks t mk l seen,∃ e q,e ∈ l∧t e=some q∧u=mk e q∧q ∉ seen∧∀ e' ∈ l,t e'=some q→e'=e∨R e e'
 | [],seen,_,u,h=>by simp [picks] at h
 |e::l,seen,hp,u,h=>by
  rw [List.pairwise_cons] at hp
  unfold picks at h
  cases ht:t e with
  |none=>
   rw [ht] at h
   dsimp only at h
   obtain ⟨e1,q,h1,h2,h3,h4,h5⟩:=picks_mem R l seen hp.2 u h
   refine ⟨e1,q,List.mem_cons_of_mem _ h1,h2,h3,h4,fun e' he' hq=>?_⟩
   rw [List.mem_cons] at he'
   rcases he' with rfl | he'
   ·rw [ht] at hq; cases hq
   ·exact h5 e' he' hq
  |some z=>
   rw [ht] at h
   dsimp only at h
   by_cases hz:seen.contains z=true
   ·rw [if_pos hz] at h
    rw [List.contains_iff_mem] at hz
    obtain ⟨e1,q,h1,h2,h3,h4,h5⟩:=picks_mem R l seen hp.2 u h
    refine ⟨e1,q,List.mem_cons_of_mem _ h1,h2,h3,h4,fun e' he' hq=>?_⟩
    rw [List.mem_cons] at he'
    rcases he' with rfl | he'
    ·rw [ht] at hq; cases hq; exact absurd hz h4
    ·exact h5 e' he' hq
   ·rw [if_neg hz,List.mem_cons] at h
    have hz':z ∉ seen:=fun hm=>hz (List.contains_iff_mem.mpr hm)
    rcases h with h | h
    ·refine ⟨e,z,by simp,ht,h,hz',fun e' he' _=>?_⟩
     rw [List.mem_cons] at he'
     rcases he' with rfl | he'
     ·exact .inl rfl
     ·exact .inr (hp.1 e' he')
    ·obtain ⟨e1,q,h1,h2,h3,h4,h5⟩:=picks_mem R l (z::seen) hp.2 u h
     refine ⟨e1,q,List.mem_cons_of_mem _ h1,h2,h3,fun hm=>h4 (List.mem_cons_of_mem _ hm),fun e' he' hq=>?_⟩
     rw [List.mem_cons] at he'
     rcases he' with rfl | he'
     ·rw [ht] at hq; cases hq; exact absurd (List.mem_cons_self ..) h4
     ·exact h5 e' he' hq
theorem picks_has:∀ (l:List α) (seen:List Nat) (q:Nat) (e:α),e ∈ l→t e=some q→q ∉ seen→∃ e' ∈ l,mk e' q ∈ picks t mk l seen
 | [],seen,q,e,h,_,_=>by simp at h
 |a::l,seen,q,e,h,hq,hs=>by
  unfold picks
  rw [List.mem_cons] at h
  cases ht:t a with
  |none=>
   dsimp only
   rcases h with rfl | h
   ·rw [ht] at hq; cases hq
   ·obtain ⟨e',h1,h2⟩:=picks_has l seen q e h hq hs
    exact ⟨e',List.mem_cons_of_mem _ h1,h2⟩
  |some z=>
   dsimp only
   by_cases hz:seen.contains z=true
   ·rw [if_pos hz]
    rw [List.contains_iff_mem] at hz
    rcases h with rfl | h
    ·rw [ht] at hq; cases hq; exact absurd hz hs
    ·obtain ⟨e',h1,h2⟩:=picks_has l seen q e h hq hs
     exact ⟨e',List.mem_cons_of_mem _ h1,h2⟩
   ·rw [if_neg hz]
    by_cases hzq:z=q
    ·subst hzq; exact ⟨a,by simp,by simp⟩
    ·rcases h with rfl | h
     ·rw [ht] at hq; cases hq; exact absurd rfl hzq
     ·obtain ⟨e',h1,h2⟩:=picks_has l (z::seen) q e h hq (by rw [List.mem_cons]; rintro (h3 | h3); exact hzq h3.symm; exact hs h3)
      exact ⟨e',List.mem_cons_of_mem _ h1,List.mem_cons_of_mem _ h2⟩
theorem picks_sorted (R:α→α→Prop) (S:Walk→Walk→Prop) (hRS:∀ e e' q q',R e e'→S (mk e q) (mk e' q')):∀ (l:List α) (seen:List Nat),l.Pairwise R→(picks t mk l seen).Pairwise S
 | [],seen,_=>by simp [picks]
 |e::l,seen,hp=>by
  have hp':=hp
  rw [List.pairwise_cons] at hp
  unfold picks
  cases ht:t e with
  |none=>exact picks_sorted R S hRS l seen hp.2
  |some z=>
   dsimp only
   by_cases hz:seen.contains z=true
   ·rw [if_pos hz]; exact picks_sorted R S hRS l seen hp.2
   ·rw [if_neg hz,List.pairwise_cons]
    refine ⟨fun u hu=>?_,picks_sorted R S hRS l _ hp.2⟩
    obtain ⟨e1,q,h1,h2,h3,_⟩:=picks_mem t mk R l (z::seen) hp.2 u hu
    rw [h3]
    exact hRS _ _ _ _ (hp.1 e1 h1)
end
def pairsOf (ring:List Walk):List (Walk × Nat):=ring.flatMap fun u=>(List.range 8).map fun d=>(u,d)
def tgt (f:Form) (ok:Nat→Bool) (e:Walk × Nat):Option Nat:=match toward f e.1.cell e.2 with
 |none=>none
 |some q=>if ok q=true then some q else none
def mkW (e:Walk × Nat) (q:Nat):Walk:=⟨q,e.2::e.1.dirs⟩
theorem widen_eq (f:Form) (ok:Nat→Bool) (ring:List Walk) (seen:List Nat):widen f ok ring seen=(picks (tgt f ok) mkW (pairsOf ring) seen,seens (tgt f ok) (pairsOf ring) seen):=by
 have h:=pstep_all (tgt f ok) mkW (pairsOf ring) [] seen
 rw [List.nil_append] at h
 rw [← h]
 unfold widen pairsOf
 rw [List.foldl_flatMap]
 congr 1
 funext x u
 rw [List.foldl_map]
 congr 1
 funext y d
 unfold pstep tgt
 dsimp only
 cases toward f u.cell d with
 |none=>rfl
 |some q=>
  dsimp only
  by_cases h1:ok q=true
  ·rw [if_pos h1]
   dsimp only
   by_cases h2:y.2.contains q=true
   ·rw [if_pos h2,if_neg (by rw [h1,h2]; decide)]
   ·rw [if_neg h2,if_pos (by rw [h1]; simpa using h2)]
    rfl
  ·rw [if_neg h1,if_neg (by simp [h1])]
theorem tgt_some {f:Form} {ok:Nat→Bool} {e:Walk × Nat} {q:Nat}:tgt f ok e=some q↔toward f e.1.cell e.2=some q∧ok q=true:=by
 unfold tgt
 cases toward f e.1.cell e.2 with
 |none=>simp
 |some z=>
  dsimp only
  by_cases h:ok z=true
  ·rw [if_pos h]
   constructor
   ·intro e; cases e; exact ⟨rfl,h⟩
   ·intro e; exact e.1
  ·rw [if_neg h]
   constructor
   ·intro e; cases e
   ·rintro ⟨e,h2⟩; cases e; exact absurd h2 h
end Rp
namespace Rp
open Vbexai
theorem toward_lt {f:Form} {c d q:Nat} (h:toward f c d=some q):d < 8:=by
 unfold toward at h
 cases e:DIRS[d]? with
 |none=>rw [e] at h; cases h
 |some v=>exact (List.getElem?_eq_some_iff.mp e).1
section
variable (f:Form) (ok:Nat→Bool) (a:Nat)
def Dist (k c:Nat):Prop:=(∃ p,p.length=k∧follow f ok a p=some c)∧∀ p,follow f ok a p=some c→k≤p.length
structure RI (k:Nat) (ring:List Walk) (seen:List Nat):Prop where
 r1:∀ u ∈ ring,follow f ok a u.dirs.reverse=some u.cell∧u.dirs.length=k
 r2:∀ c,c ∈ seen↔∃ p,p.length≤k∧follow f ok a p=some c
 r3:∀ c,(∃ u ∈ ring,u.cell=c)↔Dist f ok a k c
 r4:∀ u ∈ ring,∀ p,p.length=k→follow f ok a p=some u.cell→Lx u.dirs.reverse p
 r5:ring.Pairwise fun u v=>Ls u.dirs.reverse v.dirs.reverse
 r6:seen.Nodup
 r7:∀ c ∈ seen,ok c=true
variable {f ok a}
theorem mem_pairsOf {ring:List Walk} {e:Walk × Nat}:e ∈ pairsOf ring↔e.1 ∈ ring∧e.2 < 8:=by
 unfold pairsOf
 rw [List.mem_flatMap]
 constructor
 ·rintro ⟨u,hu,h⟩
  rw [List.mem_map] at h
  obtain ⟨d,hd,rfl⟩:=h
  exact ⟨hu,List.mem_range.mp hd⟩
 ·rintro ⟨h1,h2⟩
  exact ⟨e.1,h1,List.mem_map.mpr ⟨e.2,List.mem_range.mpr h2,rfl⟩⟩
def pathOf (e:Walk × Nat):List Nat:=e.1.dirs.reverse ++ [e.2]
theorem pairs_sorted {ring:List Walk} (h:ring.Pairwise fun u v=>Ls u.dirs.reverse v.dirs.reverse):(pairsOf ring).Pairwise fun e e'=>Ls (pathOf e) (pathOf e'):=by
 unfold pairsOf
 rw [List.pairwise_flatMap]
 constructor
 ·intro u _
  rw [List.pairwise_map]
  exact List.pairwise_lt_range.imp fun {x y} hxy=>ls_same _ hxy
 ·refine h.imp fun {u v} huv x hx y hy=>?_
  rw [List.mem_map] at hx hy
  obtain ⟨d,_,rfl⟩:=hx
  obtain ⟨d',_,rfl⟩:=hy
  exact huv.snoc _ _
theorem last_step {k:Nat} {ring:List Walk} {seen:List Nat} (I:RI f ok a k ring seen) {p:List Nat} {c:Nat} (hl:p.length=k + 1) (hp:follow f ok a p=some c) (hs:c ∉ seen) :
  ∃ (u:Walk) (p0:List Nat) (d:Nat),u ∈ ring∧p=p0 ++ [d]∧p0.length=k∧follow f ok a p0=some u.cell∧toward f u.cell d=some c∧ok c=true:=by
 obtain ⟨p0,d,rfl⟩:∃ p0 d,p=p0 ++ [d]:=by
  rcases List.eq_nil_or_concat p with h | ⟨p0,d,h⟩
  ·subst h; simp at hl
  ·exact ⟨p0,d,by simpa using h⟩
 have hl0:p0.length=k:=by simpa using hl
 rw [follow_snoc] at hp
 obtain ⟨c0,h0,h1,h2⟩:=hp
 have hd:Dist f ok a k c0:=by
  refine ⟨⟨p0,hl0,h0⟩,fun p1 hp1=>?_⟩
  refine Nat.le_of_not_lt fun hlt=>hs ?_
  rw [I.r2]
  exact ⟨p1 ++ [d],by rw [List.length_append,List.length_singleton]; omega,follow_snoc.mpr ⟨c0,hp1,h1,h2⟩⟩
 obtain ⟨u,hu,rfl⟩:=(I.r3 c0).mpr hd
 exact ⟨u,p0,d,hu,rfl,hl0,h0,h1,h2⟩
theorem RI.step {k:Nat} {ring:List Walk} {seen:List Nat} (I:RI f ok a k ring seen):RI f ok a (k + 1) (picks (tgt f ok) mkW (pairsOf ring) seen) (seens (tgt f ok) (pairsOf ring) seen):=by
 have srt:=pairs_sorted I.r5
 have got:∀ v ∈ picks (tgt f ok) mkW (pairsOf ring) seen,∃ u d q,u ∈ ring∧toward f u.cell d=some q∧ok q=true∧v=mkW (u,d) q∧q ∉ seen∧
   ∀ u' d',u' ∈ ring→toward f u'.cell d'=some q→(u',d')=(u,d)∨Ls (pathOf (u,d)) (pathOf (u',d')):=by
  intro v hv
  obtain ⟨e,q,h1,h2,h3,h4,h5⟩:=picks_mem (tgt f ok) mkW _ _ _ srt v hv
  obtain ⟨h6,h7⟩:=tgt_some.mp h2
  refine ⟨e.1,e.2,q,(mem_pairsOf.mp h1).1,h6,h7,h3,h4,fun u' d' hu' ht=>?_⟩
  exact h5 (u',d') (mem_pairsOf.mpr ⟨hu',toward_lt ht⟩) (tgt_some.mpr ⟨ht,h7⟩)
 have far:∀ {q:Nat},q ∉ seen→∀ p,follow f ok a p=some q→k + 1≤p.length:=fun {q} hq p hp=>by
  refine Nat.lt_of_not_le fun hle=>hq ?_
  rw [I.r2]; exact ⟨p,hle,hp⟩
 refine ⟨fun v hv=>?_,fun c=>?_,fun c=>?_,fun v hv p hl hp=>?_,?_,seens_nodup _ _ _ I.r6,fun c hc=>?_⟩
 ·obtain ⟨u,d,q,hu,h1,h2,rfl,h3,_⟩:=got v hv
  obtain ⟨h4,h5⟩:=I.r1 u hu
  constructor
  ·show follow f ok a (d::u.dirs).reverse=some q
   rw [List.reverse_cons,follow_snoc]
   exact ⟨u.cell,h4,h1,h2⟩
  ·show (d::u.dirs).length=k + 1
   rw [List.length_cons,h5]
 ·rw [mem_seens]
  constructor
  ·rintro (h | ⟨e,he,ht⟩)
   ·obtain ⟨p,h1,h2⟩:=(I.r2 c).mp h
    exact ⟨p,by omega,h2⟩
   ·obtain ⟨h1,h2⟩:=tgt_some.mp ht
    obtain ⟨h3,h4⟩:=I.r1 _ (mem_pairsOf.mp he).1
    exact ⟨e.1.dirs.reverse ++ [e.2],by simp [h4],follow_snoc.mpr ⟨_,h3,h1,h2⟩⟩
  ·rintro ⟨p,h1,h2⟩
   by_cases hs:c ∈ seen
   ·exact .inl hs
   ·have hl:p.length=k + 1:=by
     have:=far hs p h2
     omega
    obtain ⟨u,p0,d,hu,_,_,_,h3,h4⟩:=last_step I hl h2 hs
    exact .inr ⟨(u,d),mem_pairsOf.mpr ⟨hu,toward_lt h3⟩,tgt_some.mpr ⟨h3,h4⟩⟩
 ·constructor
  ·rintro ⟨v,hv,rfl⟩
   obtain ⟨u,d,q,hu,h1,h2,rfl,h3,_⟩:=got v hv
   obtain ⟨h4,h5⟩:=I.r1 u hu
   exact ⟨⟨u.dirs.reverse ++ [d],by simp [h5],follow_snoc.mpr ⟨_,h4,h1,h2⟩⟩,far h3⟩
  ·rintro ⟨⟨p,hl,hp⟩,hmin⟩
   have hs:c ∉ seen:=fun h=>by
    obtain ⟨p1,h1,h2⟩:=(I.r2 c).mp h
    have:=hmin p1 h2
    omega
   obtain ⟨u,p0,d,hu,_,_,_,h3,h4⟩:=last_step I hl hp hs
   obtain ⟨e',he',hm⟩:=picks_has (tgt f ok) mkW (pairsOf ring) seen c (u,d) (mem_pairsOf.mpr ⟨hu,toward_lt h3⟩) (tgt_some.mpr ⟨h3,h4⟩) hs
   exact ⟨_,hm,rfl⟩
 ·obtain ⟨u,d,q,hu,h1,h2,rfl,h3,hfirst⟩:=got v hv
  obtain ⟨u0,p0,d',hu0,rfl,hl0,hp0,h4,_⟩:=last_step I hl hp h3
  show Lx (d::u.dirs).reverse _
  rw [List.reverse_cons]
  have hle:Lx (pathOf (u0,d')) (p0 ++ [d']):=by
   have hlx:=I.r4 u0 hu0 p0 hl0 hp0
   have hll:u0.dirs.reverse.length=p0.length:=by rw [List.length_reverse,(I.r1 u0 hu0).2,hl0]
   rcases hlx.cases hll with q1 | q1
   ·exact (q1.snoc _ _).lx
   ·show Lx (u0.dirs.reverse ++ [d']) _
    rw [q1]; exact Lx.refl _
  rcases hfirst u0 d' hu0 h4 with e | e
  ·have e1:u0=u:=congrArg Prod.fst e
   have e2:d'=d:=congrArg Prod.snd e
   subst e1 e2
   exact hle
  ·refine (e.lx_trans ?_ hle).lx
   show (u0.dirs.reverse ++ [d']).length=_
   simp [hl0,(I.r1 u0 hu0).2]
 ·refine picks_sorted (tgt f ok) mkW _ _ (fun e e' q q' h=>?_) _ _ srt
  show Ls (e.2::e.1.dirs).reverse (e'.2::e'.1.dirs).reverse
  rw [List.reverse_cons,List.reverse_cons]
  exact h
 ·rw [mem_seens] at hc
  rcases hc with hc | ⟨e,_,ht⟩
  ·exact I.r7 c hc
  ·exact (tgt_some.mp ht).2
theorem min_way {c:Nat}:∀ (n:Nat) (p:List Nat),p.length≤n→follow f ok a p=some c→∃ q,follow f ok a q=some c∧∀ r,follow f ok a r=some c→q.length≤r.length
 | 0,p,hn,hp=>⟨p,hp,fun r _=>by omega⟩
 |n + 1,p,hn,hp=>by
  by_cases h:∃ r,follow f ok a r=some c∧r.length < p.length
  ·obtain ⟨r,hr,hlt⟩:=h
   exact min_way n r (by omega) hr
  ·exact ⟨p,hp,fun r hr=>Nat.le_of_not_lt fun hlt=>h ⟨r,hr,hlt⟩⟩
theorem none_beyond {k goal:Nat} (hno:∀ c,¬ Dist f ok a k c) (hge:∀ p,follow f ok a p=some goal→k≤p.length):∀ p,follow f ok a p ≠ some goal:=by
 intro p hp
 obtain ⟨q,hq,hmin⟩:=min_way p.length p (Nat.le_refl _) hp
 have hk:=hge q hq
 have e:q=q.take k ++ q.drop k:=(List.take_append_drop k q).symm
 rw [e,follow_append] at hq
 cases hc:follow f ok a (q.take k) with
 |none=>rw [hc] at hq; cases hq
 |some c=>
  rw [hc] at hq
  dsimp only at hq
  refine hno c ⟨⟨q.take k,by rw [List.length_take]; omega,hc⟩,fun p1 hp1=>?_⟩
  refine Nat.le_of_not_lt fun hlt=>?_
  have h2:follow f ok a (p1 ++ q.drop k)=some goal:=by rw [follow_append,hp1]; exact hq
  have h3:=hmin _ h2
  rw [List.length_append,List.length_drop] at h3
  omega
def Best (f:Form) (ok:Nat→Bool) (a goal:Nat) (p:List Nat):Prop:=
 follow f ok a p=some goal∧∀ q,follow f ok a q=some goal→p.length≤q.length∧(p.length=q.length→Lx p q)
theorem Best.uniq {a goal:Nat} {p q:List Nat} (h1:Best f ok a goal p) (h2:Best f ok a goal q):p=q:=by
 have l1:=h1.2 q h2.1
 have l2:=h2.2 p h1.1
 have hl:p.length=q.length:=by omega
 exact Lx.anti hl (l1.2 hl) (l2.2 hl.symm)
theorem nodup_le:∀ (n:Nat) (l:List Nat),l.Nodup→(∀ x ∈ l,x < n)→l.length≤n
 | 0,l,_,h=>by
  cases l with
  |nil=>simp
  |cons x l=>exact absurd (h x (by simp)) (by omega)
 |n + 1,l,hn,h=>by
  have h1:(l.erase n).length≤n:=nodup_le n (l.erase n) (hn.erase n) fun x hx=>by
   have h2:=h x (List.mem_of_mem_erase hx)
   have h3:x ≠ n:=fun e=>by subst e; exact (List.Nodup.not_mem_erase hn) hx
   omega
  have h4:=List.length_erase_le (a:=n) (l:=l)
  have h5:l.length≤(l.erase n).length + 1:=by
   rw [List.length_erase]
   split <;> omega
  omega
theorem search_ok {goal:Nat} (hb:∀ c,ok c=true→c < f.w * f.h):∀ (fuel k:Nat) (ring:List Walk) (seen:List Nat),RI f ok a k ring seen→(∀ p,follow f ok a p=some goal→k≤p.length)→(ring=[]∨f.w * f.h + 1≤seen.length + fuel)→
  (∃ p,search f ok goal fuel ring seen=some p∧Best f ok a goal p)∨(search f ok goal fuel ring seen=none∧∀ p,follow f ok a p ≠ some goal)
 | 0,k,ring,seen,I,hge,hf=>by
  refine .inr ⟨rfl,?_⟩
  rcases hf with rfl | hf
  ·exact none_beyond (fun c hc=>by obtain ⟨u,hu,_⟩:=(I.r3 c).mpr hc; simp at hu) hge
  ·have:=nodup_le _ seen I.r6 fun x hx=>hb x (I.r7 x hx)
   omega
 |fuel + 1,k,ring,seen,I,hge,hf=>by
  unfold search
  cases hfind:ring.find? fun u=>u.cell == goal with
  |some u=>
   dsimp only
   have hm:=List.mem_of_find?_eq_some hfind
   have hc:u.cell=goal:=by simpa using List.find?_some hfind
   refine .inl ⟨_,rfl,?_⟩
   obtain ⟨h1,h2⟩:=I.r1 u hm
   rw [hc] at h1
   refine ⟨h1,fun q hq=>?_⟩
   have hk:=hge q hq
   rw [List.length_reverse,h2]
   exact ⟨hk,fun e=>I.r4 u hm q e.symm (by rw [hc]; exact hq)⟩
  |none=>
   dsimp only
   have hnot:∀ u ∈ ring,u.cell ≠ goal:=fun u hu e=>by
    have:=List.find?_eq_none.mp hfind u hu
    simp [e] at this
   have hge':∀ p,follow f ok a p=some goal→k + 1≤p.length:=fun p hp=>by
    have h1:=hge p hp
    refine Nat.lt_of_le_of_ne h1 fun e=>?_
    obtain ⟨u,hu,hc⟩:=(I.r3 goal).mpr ⟨⟨p,e.symm,hp⟩,hge⟩
    exact hnot u hu hc
   cases ring with
   |nil=>
    rw [if_pos (show ([]:List Walk).isEmpty=true from rfl)]
    exact .inr ⟨rfl,none_beyond (fun c hc=>by obtain ⟨u,hu,_⟩:=(I.r3 c).mpr hc; simp at hu) hge⟩
   |cons u0 ring=>
    rw [if_neg (by simp)]
    rw [widen_eq]
    dsimp only
    refine search_ok hb fuel (k + 1) _ _ I.step hge' ?_
    by_cases he:picks (tgt f ok) mkW (pairsOf (u0::ring)) seen=[]
    ·exact .inl he
    ·right
     rw [seens_len (tgt f ok) mkW]
     have h1:1≤(picks (tgt f ok) mkW (pairsOf (u0::ring)) seen).length:=by
      cases hp:picks (tgt f ok) mkW (pairsOf (u0::ring)) seen with
      |nil=>exact absurd hp he
      |cons x l=>simp
     rcases hf with hf | hf
     ·cases hf
     ·omega
theorem RI.start (ha:ok a=true):RI f ok a 0 [⟨a,[]⟩] [a]:=by
 have z:∀ p:List Nat,p.length=0→p=[]:=fun p h=>List.length_eq_zero_iff.mp h
 refine ⟨fun u hu=>?_,fun c=>?_,fun c=>?_,fun u hu p hl hp=>?_,by simp,by simp,fun c hc=>?_⟩
 ·rw [List.mem_singleton] at hu; subst hu; exact ⟨rfl,rfl⟩
 ·rw [List.mem_singleton]
  constructor
  ·rintro rfl; exact ⟨[],by simp,rfl⟩
  ·rintro ⟨p,h1,h2⟩
   have:=z p (by omega)
   subst this
   exact (Option.some.inj h2).symm
 ·constructor
  ·rintro ⟨u,hu,rfl⟩
   rw [List.mem_singleton] at hu; subst hu
   exact ⟨⟨[],rfl,rfl⟩,fun _ _=>Nat.zero_le _⟩
  ·rintro ⟨⟨p,h1,h2⟩,_⟩
   have:=z p h1
   subst this
   exact ⟨⟨a,[]⟩,by simp,Option.some.inj h2⟩
 ·rw [List.mem_singleton] at hu; subst hu; trivial
 ·rw [List.mem_singleton] at hc; subst hc; exact ha
theorem wayTo_ok {b:Nat} (hb:∀ c,ok c=true→c < f.w * f.h) (ha:ok a=true) :
  (∃ p,wayTo f ok a b=some p∧Best f ok a b p)∨(wayTo f ok a b=none∧∀ p,follow f ok a p ≠ some b):=by
 unfold wayTo
 rw [if_pos ha]
 exact search_ok hb _ 0 _ _ (RI.start ha) (fun _ _=>Nat.zero_le _) (.inr (by show _≤1 + _; omega))
end
end Rp
namespace Rp
open Vbexai
theorem toward_iff {f:Form} {c d q:Nat}:toward f c d=some q↔∃ v,DIRS[d]?=some v∧(0≤(c % f.w:Nat) + v.1∧((c % f.w:Nat):Int) + v.1 < (f.w:Int)∧0≤((c / f.w:Nat):Int) + v.2∧((c / f.w:Nat):Int) + v.2 < (f.h:Int))∧
  q=((((c / f.w:Nat):Int) + v.2).toNat * f.w + (((c % f.w:Nat):Int) + v.1).toNat):=by
 unfold toward
 cases DIRS[d]? with
 |none=>simp
 |some v=>
  dsimp only
  unfold xOf yOf
  constructor
  ·intro h
   split at h
   ·rename_i hc
    exact ⟨v,rfl,hc,(Option.some.inj h).symm⟩
   ·cases h
  ·rintro ⟨v',e,h1,h2⟩
   cases e
   rw [if_pos h1,h2]
theorem toward_back {f:Form} {c d q:Nat} (hc:c < f.w * f.h) (h:toward f c d=some q):∃ d',toward f q d'=some c:=by
 obtain ⟨v,hv,⟨h1,h2,h3,h4⟩,rfl⟩:=toward_iff.mp h
 have hx:=mod_lt_w hc
 have hy:=div_lt_h hc
 have hce:=cell_eq f.w c
 generalize c % f.w=x at *
 generalize c / f.w=y at *
 have hq:∃ (x' y':Nat),((x:Int) + v.1).toNat=x'∧((y:Int) + v.2).toNat=y'∧(x':Int)=x + v.1∧(y':Int)=y + v.2:=⟨_,_,rfl,rfl,by omega,by omega⟩
 obtain ⟨x',y',e1,e2,e3,e4⟩:=hq
 rw [e1,e2]
 have hx':x' < f.w:=by omega
 have back:∀ (d':Nat) (v':Int × Int),DIRS[d']?=some v'→v'.1=-v.1→v'.2=-v.2→∃ d',toward f (y' * f.w + x') d'=some c:=by
  intro d' v' hv' ea eb
  refine ⟨d',toward_iff.mpr ⟨v',hv',?_,?_⟩⟩
  ·rw [cell_mod y' hx',cell_div y' hx']; omega
  ·rw [cell_mod y' hx',cell_div y' hx']
   have g1:((y':Int) + v'.2).toNat=y:=by omega
   have g2:((x':Int) + v'.1).toNat=x:=by omega
   rw [g1,g2,hce]
 have hd:=(List.getElem?_eq_some_iff.mp hv).1
 have hd8:d < 8:=hd
 have:d=0∨d=1∨d=2∨d=3∨d=4∨d=5∨d=6∨d=7:=by omega
 rcases this with rfl | rfl | rfl | rfl | rfl | rfl | rfl | rfl <;> (have hv':=Option.some.inj hv; subst hv')
 ·exact back 4 (0,1) rfl rfl rfl
 ·exact back 5 (-1,1) rfl rfl rfl
 ·exact back 6 (-1,0) rfl rfl rfl
 ·exact back 7 (-1,-1) rfl rfl rfl
 ·exact back 0 (0,-1) rfl rfl rfl
 ·exact back 1 (1,-1) rfl rfl rfl
 ·exact back 2 (1,0) rfl rfl rfl
 ·exact back 3 (1,1) rfl rfl rfl
theorem toward_in {f:Form} {c d q:Nat} (h:toward f c d=some q):q < f.w * f.h:=by
 obtain ⟨v,hv,⟨h1,h2,h3,h4⟩,rfl⟩:=toward_iff.mp h
 exact cell_lt (by omega) (by omega)
structure Bf (f:Form) (ok:Nat→Bool) (goal:Nat) (rs:List (Nat × Nat)):Prop where
 nd:(rs.map (·.1)).Nodup
 hd:rs[0]?=some (goal,0)
 ok1:∀ p ∈ rs,ok p.1=true
 z:∀ c,(c,0) ∈ rs→c=goal
 s:∀ c n,(c,n + 1) ∈ rs→∃ d q,toward f c d=some q∧(q,n) ∈ rs
 so:(rs.map (·.2)).Pairwise (·≤·)
def Cl (f:Form) (ok:Nat→Bool) (rs:List (Nat × Nat)) (p:Nat × Nat) (d:Nat):Prop:=∀ d',d' < d→∀ q,toward f p.1 d'=some q→ok q=true→∃ m,m≤p.2 + 1∧(q,m) ∈ rs
theorem Cl.mono {f:Form} {ok:Nat→Bool} {rs:List (Nat × Nat)} {p:Nat × Nat} {d:Nat} (h:Cl f ok rs p d) (x:List (Nat × Nat)):Cl f ok (rs ++ x) p d:=fun d' h1 q h2 h3=>
 let ⟨m,h4,h5⟩:=h d' h1 q h2 h3
 ⟨m,h4,List.mem_append_left _ h5⟩
section
variable {f:Form} {ok:Nat→Bool} {goal:Nat} {rs:List (Nat × Nat)}
theorem Bf.start (hg:ok goal=true):Bf f ok goal [(goal,0)]:=by
 refine ⟨by simp,rfl,fun p hp=>?_,fun c hc=>?_,fun c n hc=>?_,by simp⟩
 ·rw [List.mem_singleton] at hp; subst hp; exact hg
 ·rw [List.mem_singleton] at hc; exact congrArg Prod.fst hc
 ·rw [List.mem_singleton] at hc; exact absurd (congrArg Prod.snd hc) (by simp)
theorem Bf.add (B:Bf f ok goal rs) (hb:∀ c,ok c=true→c < f.w * f.h) {c D d q:Nat} (hc:(c,D) ∈ rs) (ht:toward f c d=some q) (hq:ok q=true) (hn:q ∉ rs.map (·.1)) (hD:∀ p ∈ rs,p.2≤D + 1):Bf f ok goal (rs ++ [(q,D + 1)]):=by
 refine ⟨?_,?_,fun p hp=>?_,fun x hx=>?_,fun x n hx=>?_,?_⟩
 ·rw [List.map_append]
  rw [List.nodup_append]
  refine ⟨B.nd,by simp,fun x hx y hy e=>?_⟩
  simp at hy
  subst hy e
  exact hn hx
 ·rw [List.getElem?_append_left]
  ·exact B.hd
  ·have:=(List.getElem?_eq_some_iff.mp B.hd).1; exact this
 ·rw [List.mem_append,List.mem_singleton] at hp
  rcases hp with hp | rfl
  ·exact B.ok1 p hp
  ·exact hq
 ·rw [List.mem_append,List.mem_singleton] at hx
  rcases hx with hx | hx
  ·exact B.z x hx
  ·exact absurd (congrArg Prod.snd hx) (by simp)
 ·rw [List.mem_append,List.mem_singleton] at hx
  rcases hx with hx | hx
  ·obtain ⟨d',q',h1,h2⟩:=B.s x n hx
   exact ⟨d',q',h1,List.mem_append_left _ h2⟩
  ·have e1:x=q:=congrArg Prod.fst hx
   have e2:n=D:=by have:=congrArg Prod.snd hx; simpa using this
   subst e1 e2
   obtain ⟨d',h⟩:=toward_back (hb c (B.ok1 _ hc)) ht
   exact ⟨d',c,h,List.mem_append_left _ hc⟩
 ·rw [List.map_append,List.pairwise_append]
  refine ⟨B.so,by simp,fun x hx y hy=>?_⟩
  simp at hy
  subst hy
  obtain ⟨p,hp,rfl⟩:=List.mem_map.mp hx
  exact hD p hp
theorem Bf.sorted (B:Bf f ok goal rs) {i j:Nat} {p q:Nat × Nat} (hi:rs[i]?=some p) (hj:rs[j]?=some q) (h:i≤j):p.2≤q.2:=by
 rcases Nat.eq_or_lt_of_le h with rfl | h
 ·rw [hi] at hj; cases hj; exact Nat.le_refl _
 ·have:=B.so
  rw [List.pairwise_iff_getElem] at this
  have h1:=(List.getElem?_eq_some_iff.mp hi)
  have h2:=(List.getElem?_eq_some_iff.mp hj)
  have h3:=this i j (by rw [List.length_map]; exact h1.1) (by rw [List.length_map]; exact h2.1) h
  rw [List.getElem_map,List.getElem_map,h1.2,h2.2] at h3
  exact h3
def far (rs:List (Nat × Nat)) (c:Nat):Option Nat:=(rs.find? fun p=>p.1 == c).map (·.2)
theorem far_iff (hn:(rs.map (·.1)).Nodup) {c n:Nat}:far rs c=some n↔(c,n) ∈ rs:=by
 unfold far
 constructor
 ·intro h
  rw [Option.map_eq_some_iff] at h
  obtain ⟨p,hp,rfl⟩:=h
  have h1:=List.mem_of_find?_eq_some hp
  have h2:p.1=c:=by simpa using List.find?_some hp
  subst h2
  exact h1
 ·intro h
  cases e:rs.find? fun p=>p.1 == c with
  |none=>
   have:=List.find?_eq_none.mp e (c,n) h
   simp at this
  |some p=>
   have h1:=List.mem_of_find?_eq_some e
   have h2:p.1=c:=by simpa using List.find?_some e
   rw [Option.map_some]
   obtain ⟨i,hi⟩:=List.mem_iff_getElem?.mp h1
   obtain ⟨j,hj⟩:=List.mem_iff_getElem?.mp h
   have e1:(rs.map (·.1))[i]?=some c:=by rw [List.getElem?_map,hi]; exact congrArg some h2
   have e2:(rs.map (·.1))[j]?=some c:=by rw [List.getElem?_map,hj]; rfl
   obtain ⟨g1,g2⟩:=List.getElem?_eq_some_iff.mp e1
   obtain ⟨g3,g4⟩:=List.getElem?_eq_some_iff.mp e2
   have:i=j:=(List.getElem_inj hn).mp (g2.trans g4.symm)
   subst this
   rw [hi] at hj
   cases hj
   rfl
theorem far_none {c:Nat}:far rs c=none↔c ∉ rs.map (·.1):=by
 unfold far
 rw [Option.map_eq_none_iff,List.find?_eq_none]
 constructor
 ·intro h hm
  obtain ⟨p,hp,e⟩:=List.mem_map.mp hm
  exact h p hp (by simpa using e)
 ·intro h p hp e
  exact h (List.mem_map.mpr ⟨p,hp,by simpa using e⟩)
structure FarOk (f:Form) (ok:Nat→Bool) (goal:Nat) (fr:Nat→Option Nat):Prop where
 g0:fr goal=some 0
 z:∀ c,fr c=some 0→c=goal
 s:∀ c n,fr c=some (n + 1)→∃ d q,toward f c d=some q∧fr q=some n
 ok1:∀ c n,fr c=some n→ok c=true
 cl:∀ c n c' d,fr c=some n→toward f c' d=some c→ok c'=true→∃ m,fr c'=some m∧m≤n + 1
theorem Bf.done (B:Bf f ok goal rs) (hb:∀ c,ok c=true→c < f.w * f.h) (hcl:∀ p ∈ rs,Cl f ok rs p 8):FarOk f ok goal (far rs):=by
 refine ⟨(far_iff B.nd).mpr (List.mem_of_getElem? B.hd),fun c h=>B.z c ((far_iff B.nd).mp h),fun c n h=>?_,fun c n h=>B.ok1 _ ((far_iff B.nd).mp h),fun c n c' d h ht hc'=>?_⟩
 ·obtain ⟨d,q,h1,h2⟩:=B.s c n ((far_iff B.nd).mp h)
  exact ⟨d,q,h1,(far_iff B.nd).mpr h2⟩
 ·obtain ⟨d',hd'⟩:=toward_back (hb c' hc') ht
  obtain ⟨m,h1,h2⟩:=hcl _ ((far_iff B.nd).mp h) d' (toward_lt hd') c' hd' hc'
  exact ⟨m,(far_iff B.nd).mpr h2,h1⟩
variable {fr:Nat→Option Nat}
theorem FarOk.way (F:FarOk f ok goal fr):∀ (p:List Nat) (c:Nat),ok c=true→follow f ok c p=some goal→∃ n,fr c=some n∧n≤p.length
 | [],c,_,h=>by
  have e:c=goal:=Option.some.inj h
  subst e
  exact ⟨0,F.g0,Nat.le_refl _⟩
 |d::p,c,hc,h=>by
  rw [follow_cons] at h
  obtain ⟨q,h1,h2,h3⟩:=h
  obtain ⟨n,h4,h5⟩:=F.way p q h2 h3
  obtain ⟨m,h6,h7⟩:=F.cl q n c d h4 h1 hc
  exact ⟨m,h6,by rw [List.length_cons]; omega⟩
def nearer (f:Form) (fr:Nat→Option Nat) (c d:Nat):Bool:=match toward f c d with
 |none=>false
 |some q=>match fr q with
  |none=>false
  |some m=>match fr c with
   |none=>false
   |some n=>decide (m < n)
theorem nearer_iff {c d:Nat}:nearer f fr c d=true↔∃ q m n,toward f c d=some q∧fr q=some m∧fr c=some n∧m < n:=by
 unfold nearer
 cases toward f c d with
 |none=>simp
 |some q=>
  dsimp only
  cases h:fr q with
  |none=>simp [h]
  |some m=>
   dsimp only
   cases h2:fr c with
   |none=>simp
   |some n=>simp [h]
def gway (f:Form) (fr:Nat→Option Nat):Nat→Nat→List Nat
 | 0,_=>[]
 |n + 1,c=>match (List.range 8).find? (nearer f fr c) with
  |none=>[]
  |some d=>match toward f c d with
   |none=>[]
   |some q=>d::gway f fr n q
theorem FarOk.first (F:FarOk f ok goal fr) {c n:Nat} (h:fr c=some (n + 1)):∃ d q,(List.range 8).find? (nearer f fr c)=some d∧toward f c d=some q∧fr q=some n∧ok q=true∧∀ d' q',toward f c d'=some q'→fr q'=some n→d≤d':=by
 obtain ⟨d0,q0,h1,h2⟩:=F.s c n h
 have hn0:nearer f fr c d0=true:=nearer_iff.mpr ⟨q0,n,n + 1,h1,h2,h,by omega⟩
 cases e:(List.range 8).find? (nearer f fr c) with
 |none=>
  have:=List.find?_eq_none.mp e d0 (List.mem_range.mpr (toward_lt h1))
  exact absurd hn0 this
 |some d=>
  have hd:nearer f fr c d=true:=List.find?_some e
  obtain ⟨q,m,n',g1,g2,g3,g4⟩:=nearer_iff.mp hd
  rw [h] at g3
  cases g3
  have hok:=F.ok1 _ _ h
  obtain ⟨m',g5,g6⟩:=F.cl q m c d g2 g1 hok
  rw [h] at g5
  cases g5
  have:m=n:=by omega
  subst this
  refine ⟨d,q,rfl,g1,g2,F.ok1 _ _ g2,fun d' q' k1 k2=>?_⟩
  refine Nat.le_of_not_lt fun hlt=>?_
  have hn':nearer f fr c d'=true:=nearer_iff.mpr ⟨q',m,m + 1,k1,k2,h,by omega⟩
  have hs:=List.find?_eq_some_iff_append.mp e
  obtain ⟨_,as,bs,hab,hno⟩:=hs
  have hdl:d < 8:=toward_lt g1
  have hlen:as.length=d:=by
   have q1:(List.range 8)[as.length]?=some d:=by
    rw [hab,List.getElem?_append_right (Nat.le_refl _)]; simp
   rw [List.getElem?_range] at q1
   ·exact Option.some.inj q1
   ·have:=congrArg List.length hab
    rw [List.length_range,List.length_append,List.length_cons] at this
    omega
  have q2:as[d']?=some d':=by
   have q3:(List.range 8)[d']?=some d':=List.getElem?_range (by omega)
   rw [hab,List.getElem?_append_left (by omega)] at q3
   exact q3
  have:=hno d' (List.mem_of_getElem? q2)
  rw [hn'] at this
  exact absurd this (by decide)
theorem FarOk.best (F:FarOk f ok goal fr):∀ (n c:Nat),fr c=some n→Best f ok c goal (gway f fr n c)∧(gway f fr n c).length=n
 | 0,c,h=>by
  have e:=F.z c h
  subst e
  exact ⟨⟨rfl,fun q _=>⟨Nat.zero_le _,fun _=>trivial⟩⟩,rfl⟩
 |n + 1,c,h=>by
  obtain ⟨d,q,h1,h2,h3,h4,h5⟩:=F.first h
  obtain ⟨⟨h6,h7⟩,h8⟩:=F.best n q h3
  have e:gway f fr (n + 1) c=d::gway f fr n q:=by
   show (match (List.range 8).find? (nearer f fr c) with | none=>[] | some d=>match toward f c d with | none=>[] | some q=>d::gway f fr n q)=_
   rw [h1]
   dsimp only
   rw [h2]
  rw [e]
  refine ⟨⟨follow_cons.mpr ⟨q,h2,h4,h6⟩,fun p hp=>?_⟩,by rw [List.length_cons,h8]⟩
  have hc:=F.ok1 _ _ h
  obtain ⟨n',g1,g2⟩:=F.way p c hc hp
  rw [h] at g1
  cases g1
  rw [List.length_cons,h8]
  refine ⟨g2,fun el=>?_⟩
  cases p with
  |nil=>simp at el
  |cons d' p=>
   rw [follow_cons] at hp
   obtain ⟨q',k1,k2,k3⟩:=hp
   have el':n=p.length:=by simpa using el
   obtain ⟨m,k4,k5⟩:=F.way p q' k2 k3
   obtain ⟨m',k6,k7⟩:=F.cl q' m c d' k4 k1 hc
   rw [h] at k6
   cases k6
   have:m=n:=by omega
   subst this
   have hle:=h5 d' q' k1 k4
   rcases Nat.lt_or_eq_of_le hle with hlt | heq
   ·exact .inl hlt
   ·subst heq
    rw [h2] at k1
    cases k1
    exact .inr ⟨rfl,(h7 p k3).2 (by rw [h8]; exact el')⟩
theorem FarOk.chain (F:FarOk f ok goal fr):∀ (n c:Nat),fr c=some n→∃ l:List Nat,l.length=n + 1∧l.Nodup∧∀ x ∈ l,∃ m,fr x=some m∧m≤n
 | 0,c,h=>⟨[c],rfl,by simp,fun x hx=>by rw [List.mem_singleton] at hx; subst hx; exact ⟨0,h,Nat.le_refl _⟩⟩
 |n + 1,c,h=>by
  obtain ⟨d,q,h1,h2⟩:=F.s c n h
  obtain ⟨l,h3,h4,h5⟩:=F.chain n q h2
  refine ⟨c::l,by rw [List.length_cons,h3],List.nodup_cons.mpr ⟨fun hm=>?_,h4⟩,fun x hx=>?_⟩
  ·obtain ⟨m,h6,h7⟩:=h5 c hm
   rw [h] at h6
   cases h6
   omega
  ·rw [List.mem_cons] at hx
   rcases hx with rfl | hx
   ·exact ⟨n + 1,h,Nat.le_refl _⟩
   ·obtain ⟨m,h6,h7⟩:=h5 x hx
    exact ⟨m,h6,by omega⟩
theorem FarOk.small (F:FarOk f ok goal fr) (hb:∀ c,ok c=true→c < f.w * f.h) {n c:Nat} (h:fr c=some n):n < f.w * f.h:=by
 obtain ⟨l,h1,h2,h3⟩:=F.chain n c h
 have:=nodup_le (f.w * f.h) l h2 fun x hx=>by
  obtain ⟨m,h4,_⟩:=h3 x hx
  exact hb x (F.ok1 _ _ h4)
 omega
theorem FarOk.wayTo (F:FarOk f ok goal fr) (hb:∀ c,ok c=true→c < f.w * f.h) {a:Nat} (ha:ok a=true):Vbexai.wayTo f ok a goal=(fr a).map fun n=>gway f fr n a:=by
 rcases wayTo_ok (b:=goal) hb ha with ⟨p,h1,h2⟩ | ⟨h1,h2⟩
 ·obtain ⟨n,h3,h4⟩:=F.way p a ha h2.1
  rw [h1,h3,Option.map_some,h2.uniq (F.best n a h3).1]
 ·rw [h1]
  cases e:fr a with
  |none=>rfl
  |some n=>exact absurd (F.best n a e).1.1 (h2 _)
theorem wayTo_not {a b:Nat} (hb:∀ c,ok c=true→c < f.w * f.h) (h:ok a=false∨ok b=false):Vbexai.wayTo f ok a b=none:=by
 by_cases ha:ok a=true
 ·rcases wayTo_ok (b:=b) hb ha with ⟨p,h1,h2⟩ | ⟨h1,h2⟩
  ·have:=follow_ok ha h2.1
   rw [ha,this] at h
   rcases h with h | h <;> cases h
  ·exact h1
 ·unfold Vbexai.wayTo
  rw [if_neg ha]
end
end Rp
namespace Rp
open Vbexai
def orW (l:List Nat):Nat:=l.foldl (fun a x=>a ||| x) 0
theorem orW_from (l:List Nat):∀ a i:Nat,(l.foldl (fun a x=>a ||| x) a).testBit i=(a.testBit i || l.any fun x=>x.testBit i):=by
 induction l with
 |nil=>intro a i; simp
 |cons x l ih=>
  intro a i
  rw [List.foldl_cons,ih,Nat.testBit_or,List.any_cons,Bool.or_assoc]
theorem orW_bit (l:List Nat) (i:Nat):(orW l).testBit i=l.any fun x=>x.testBit i:=by
 unfold orW
 rw [orW_from]; simp
theorem orW_hole (l:List Nat) (i:Nat):hole (orW l) i=l.any fun x=>hole x i:=by
 rw [hole_eq,orW_bit]
 congr 1
 funext x
 rw [hole_eq]
theorem orW_snoc (l:List Nat) (x:Nat):orW (l ++ [x])=orW l ||| x:=by
 unfold orW
 rw [List.foldl_append]; rfl
theorem orW_lt {l:List Nat} {n:Nat} (h:∀ x ∈ l,x < 2 ^ n):orW l < 2 ^ n:=by
 refine lt_pow_of_bits fun i hi=>?_
 rw [orW_bit,List.any_eq_true] at hi
 obtain ⟨x,hx,hb⟩:=hi
 exact Nat.lt_of_not_le fun hle=>by
  rw [Nat.testBit_lt_two_pow (Nat.lt_of_lt_of_le (h x hx) (Nat.pow_le_pow_right (by decide) hle))] at hb
  cases hb
def andW (a:Nat) (l:List Nat):Nat:=l.foldl (fun a x=>a &&& x) a
theorem andW_bit (l:List Nat):∀ a i:Nat,(andW a l).testBit i=(a.testBit i && l.all fun x=>x.testBit i):=by
 induction l with
 |nil=>intro a i; simp [andW]
 |cons x l ih=>
  intro a i
  have e:andW a (x::l)=andW (a &&& x) l:=rfl
  rw [e,ih,Nat.testBit_and,List.all_cons,Bool.and_assoc]
theorem andW_snoc (a:Nat) (l:List Nat) (x:Nat):andW a (l ++ [x])=andW a l &&& x:=by
 unfold andW
 rw [List.foldl_append]; rfl
theorem orAll_snoc (a:Nat) (l:List Nat) (c:Nat):orAll a (l ++ [c])=orAll a l ||| 2 ^ c:=by
 unfold orAll
 rw [List.foldl_append]; rfl
theorem low_bit:∀ (n y:Nat),y < n→0 < y→∃ j m,y=2 ^ j * (2 * m + 1)
 | 0,y,h,_=>by omega
 |n + 1,y,h,h0=>by
  by_cases e:y % 2=1
  ·exact ⟨0,y / 2,by rw [Nat.pow_zero,Nat.one_mul]; omega⟩
  ·obtain ⟨j,m,hm⟩:=low_bit n (y / 2) (by omega) (by omega)
   refine ⟨j + 1,m,?_⟩
   rw [Nat.pow_succ,Nat.mul_assoc,Nat.mul_left_comm,← hm]
   omega
theorem low_eq (j m:Nat):2 ^ j * (2 * m + 1)=2 ^ (j + 1) * m + 2 ^ j:=by
 rw [Nat.mul_add,Nat.mul_one,Nat.pow_succ,Nat.mul_assoc]
theorem low_bits (j m i:Nat):(2 ^ j * (2 * m + 1)).testBit i=((2 ^ (j + 1) * m).testBit i || decide (j=i)):=by
 rw [low_eq,Nat.two_pow_add_eq_or_of_lt (Nat.pow_lt_pow_right (by decide) (Nat.lt_succ_self j)),Nat.testBit_or,Nat.testBit_two_pow]
theorem high_bits (j m i:Nat) (h:i≤j):(2 ^ (j + 1) * m).testBit i=false:=by
 rw [Nat.testBit_two_pow_mul]
 have:¬ i ≥ j + 1:=by omega
 simp [this]
theorem low_and (j m:Nat):(2 ^ j * (2 * m + 1)) &&& (2 ^ j * (2 * m + 1) - 1)=2 ^ (j + 1) * m:=by
 have hp:0 < 2 ^ j:=Nat.two_pow_pos j
 have hlt:2 ^ j - 1 < 2 ^ (j + 1):=Nat.lt_of_le_of_lt (Nat.sub_le _ _) (Nat.pow_lt_pow_right (by decide) (Nat.lt_succ_self j))
 have e:2 ^ j * (2 * m + 1) - 1=2 ^ (j + 1) * m + (2 ^ j - 1):=by rw [low_eq]; omega
 apply Nat.eq_of_testBit_eq
 intro i
 rw [Nat.testBit_and,low_bits,e,Nat.two_pow_add_eq_or_of_lt hlt,Nat.testBit_or,Nat.testBit_two_pow_sub_one]
 by_cases h:i≤j
 ·rw [high_bits j m i h]
  by_cases h2:j=i
  ·subst h2; simp
  ·simp [h2]
 ·have h1:¬ j=i:=by omega
  have h2:¬ i < j:=by omega
  simp [h1,h2]
theorem low_xor (j m:Nat):(2 ^ j * (2 * m + 1)) ^^^ 2 ^ j=2 ^ (j + 1) * m:=by
 apply Nat.eq_of_testBit_eq
 intro i
 rw [Nat.testBit_xor,low_bits,Nat.testBit_two_pow]
 by_cases h2:j=i
 ·subst h2
  rw [high_bits j m j (Nat.le_refl _)]; simp
 ·simp [h2]
theorem low_sub (j m:Nat):2 ^ j * (2 * m + 1) - ((2 ^ j * (2 * m + 1)) &&& (2 ^ j * (2 * m + 1) - 1))=2 ^ j:=by
 rw [low_and,low_eq]; exact Nat.add_sub_cancel_left _ _
theorem holes_turn {x k j m left:Nat} (hL:∀ i,left.testBit i=(decide (k≤i) && x.testBit i)) (e:left=2 ^ j * (2 * m + 1)) :
  k≤j∧x.testBit j=true∧(∀ i,k≤i→i < j→x.testBit i=false)∧∀ i,(2 ^ (j + 1) * m).testBit i=(decide (j + 1≤i) && x.testBit i):=by
 subst e
 have hj:=hL j
 rw [low_bits,high_bits j m j (Nat.le_refl _)] at hj
 simp at hj
 refine ⟨hj.1,hj.2,fun i h1 h2=>?_,fun i=>?_⟩
 ·have:=hL i
  rw [low_bits,high_bits j m i (by omega)] at this
  have hne:¬ j=i:=by omega
  simp [hne,h1] at this
  exact this
 ·by_cases h:i≤j
  ·rw [high_bits j m i h]
   have:¬ j + 1≤i:=by omega
   simp [this]
  ·have h1:=hL i
   rw [low_bits] at h1
   have hne:¬ j=i:=by omega
   have h2:k≤i:=by omega
   have h3:j + 1≤i:=by omega
   simp [hne,h2] at h1
   simp [h3,h1]
theorem map_range_set (f:Nat→Nat) (n c v:Nat):((List.range n).map f).set c v=(List.range n).map fun i=>if i=c then v else f i:=by
 apply List.ext_getElem?
 intro i
 rw [List.getElem?_set,List.getElem?_map,List.getElem?_map,List.length_map,List.length_range]
 by_cases hi:i < n
 ·rw [List.getElem?_range hi]
  by_cases h:c=i
  ·subst h; simp [hi]
  ·have h':¬ i=c:=fun e=>h e.symm
   simp [h,h']
 ·have hnone:(List.range n)[i]?=none:=List.getElem?_eq_none (by rw [List.length_range]; omega)
  rw [hnone]
  by_cases h:c=i
  ·subst h; simp [hi]
  ·simp [h]
theorem map_range_at (f:Nat→Nat) {n c:Nat} (h:c < n):((List.range n).map f)[c]?=some (f c):=by
 rw [List.getElem?_map,List.getElem?_range h]; rfl
theorem clear_and (x:Nat) (p:List Nat):(x &&& orAll 0 p=0)↔clear x p=true:=by
 unfold clear
 rw [List.all_eq_true]
 constructor
 ·intro h c hc
  have:=congrArg (fun z=>Nat.testBit z c) h
  simp only [Nat.testBit_and,orAll_bit,Nat.zero_testBit] at this
  rw [hole_eq]
  simp [hc] at this
  simp [this]
 ·intro h
  apply Nat.eq_of_testBit_eq
  intro i
  rw [Nat.testBit_and,orAll_bit,Nat.zero_testBit]
  by_cases hi:i ∈ p
  ·have:=h i hi
   rw [hole_eq] at this
   simp at this
   simp [this]
  ·simp [hi]
end Rp
namespace Rp
open Vbexai
def pcL (L n:Nat):Nat:=(List.range L).countP fun i=>n.testBit i
theorem pcL_zero (L:Nat):pcL L 0=0:=by
 unfold pcL
 rw [List.countP_eq_zero]
 intro i _
 simp
theorem pcL_succ (L n:Nat):pcL (L + 1) n=n % 2 + pcL L (n / 2):=by
 unfold pcL
 rw [List.range_succ_eq_map,List.countP_cons,List.countP_map,Nat.add_comm]
 congr 1
 ·rw [Nat.testBit_zero]
  have h:n % 2=0∨n % 2=1:=by omega
  rcases h with h | h <;> simp [h]
 ·congr 1
  funext i
  show n.testBit (i + 1)=_
  rw [Nat.testBit_succ]
theorem pcL_top (L n:Nat) (h:n < 2 ^ L):pcL (L + 1) n=pcL L n:=by
 unfold pcL
 rw [List.range_succ,List.countP_append,List.countP_singleton,Nat.testBit_lt_two_pow h]
 rfl
theorem pcL_half {L n:Nat} (h:n < 2 ^ L):pcL L n=pcL L (n / 2) + n % 2:=by
 cases L with
 |zero=>
  have:n=0:=by
   rw [Nat.pow_zero] at h
   omega
  subst this
  rw [pcL_zero]
 |succ L=>
  have h2:n / 2 < 2 ^ L:=by rw [Nat.pow_succ] at h; omega
  rw [pcL_top L (n / 2) h2,pcL_succ,Nat.add_comm]
def plT (x:Nat) (way:List Nat) (i:Nat):Nat:=orAll 0 ((List.range i).filter fun j=>(way[j]?).any (hole x))
def plc (x:Nat) (way:List Nat):Nat:=plT x way way.length
theorem plT_succ {x:Nat} {way:List Nat} {i c:Nat} (h:way[i]?=some c):plT x way (i + 1)=plT x way i ||| (x / 2 ^ c % 2) * 2 ^ i:=by
 unfold plT
 rw [List.range_succ,List.filter_append,List.filter_cons,List.filter_nil,h]
 have hb:x / 2 ^ c % 2=0∨x / 2 ^ c % 2=1:=by omega
 have e:(some c).any (hole x)=hole x c:=rfl
 rw [e]
 rcases hb with hb | hb
 ·have:hole x c=false:=by unfold hole; rw [hb]; rfl
  rw [if_neg (by rw [this]; decide),List.append_nil,hb,Nat.zero_mul,Nat.or_zero]
 ·have:hole x c=true:=by unfold hole; rw [hb]; rfl
  rw [if_pos this,orAll_snoc,hb,Nat.one_mul]
theorem plc_bit (x:Nat) (way:List Nat) (i:Nat):(plc x way).testBit i=(way[i]?).any (hole x):=by
 unfold plc plT
 rw [orAll_bit,Nat.zero_testBit,Bool.false_or]
 by_cases h:i < way.length
 ·have:(i ∈ (List.range way.length).filter fun j=>(way[j]?).any (hole x))↔(way[i]?).any (hole x)=true:=by
   rw [List.mem_filter,List.mem_range]
   exact ⟨fun z=>z.2,fun z=>⟨h,z⟩⟩
  by_cases q:(way[i]?).any (hole x)=true
  ·rw [decide_eq_true (this.mpr q),q]
  ·rw [decide_eq_false (fun z=>q (this.mp z))]
   exact (Bool.eq_false_iff.mpr q).symm
 ·have:¬ i ∈ (List.range way.length).filter fun j=>(way[j]?).any (hole x):=by
   rw [List.mem_filter,List.mem_range]
   exact fun z=>h z.1
  rw [decide_eq_false this,List.getElem?_eq_none (by omega)]
  rfl
theorem plc_lt (x:Nat) (way:List Nat):plc x way < 2 ^ way.length:=by
 refine lt_pow_of_bits fun i hi=>?_
 rw [plc_bit] at hi
 exact Nat.lt_of_not_le fun h=>by
  rw [List.getElem?_eq_none h] at hi
  cases hi
theorem plc_count (x:Nat) (way:List Nat):pcL way.length (plc x way)=(way.filter fun c=>hole x c).length:=by
 unfold pcL
 have e:(List.range way.length).countP (fun i=>(plc x way).testBit i)=(List.range way.length).countP (fun i=>(way[i]?).any (hole x)):=by
  congr 1
  funext i
  rw [plc_bit]
 rw [e,← List.countP_eq_length_filter]
 clear e
 induction way with
 |nil=>rfl
 |cons c l ih=>
  rw [List.length_cons,List.range_succ_eq_map,List.countP_cons,List.countP_map,List.countP_cons,← ih]
  rfl
theorem hole_and (x y c:Nat):hole (x &&& y) c=(hole x c && hole y c):=by
 rw [hole_eq,hole_eq,hole_eq,Nat.testBit_and]
theorem plc_cells (x:Nat) (way:List Nat):plc (x &&& orAll 0 way) way=plc x way:=by
 apply Nat.eq_of_testBit_eq
 intro i
 rw [plc_bit,plc_bit]
 cases h:way[i]? with
 |none=>rfl
 |some c=>
  show hole (x &&& orAll 0 way) c=hole x c
  have hc:c ∈ way:=List.mem_of_getElem? h
  rw [hole_and,hole_eq (orAll 0 way),orAll_bit]
  simp [hc]
theorem plc_inj {x y:Nat} {way:List Nat} (h:plc x way=plc y way):x &&& orAll 0 way=y &&& orAll 0 way:=by
 apply Nat.eq_of_testBit_eq
 intro c
 rw [Nat.testBit_and,Nat.testBit_and,orAll_bit,Nat.zero_testBit,Bool.false_or]
 by_cases hc:c ∈ way
 ·obtain ⟨i,hi⟩:=List.mem_iff_getElem?.mp hc
  have h1:=plc_bit x way i
  have h2:=plc_bit y way i
  rw [hi] at h1 h2
  rw [h,h2] at h1
  have h3:hole y c=hole x c:=h1
  rw [hole_eq,hole_eq] at h3
  rw [h3]
 ·simp [hc]
def addF (k:Nat→Nat) (rs:List (Nat × Nat)) (x:Nat):List (Nat × Nat):=match far rs (k x) with
 |none=>rs ++ [(k x,x)]
 |some _=>rs
def firstsBy (k:Nat→Nat) (ws:List Nat):List (Nat × Nat):=ws.foldl (addF k) []
theorem firstsBy_snoc (k:Nat→Nat) (ws:List Nat) (x:Nat):firstsBy k (ws ++ [x])=addF k (firstsBy k ws) x:=by
 unfold firstsBy
 rw [List.foldl_append]; rfl
theorem list_snoc_ind {α:Type} {p:List α→Prop} (h0:p []) (hs:∀ l x,p l→p (l ++ [x])):∀ l,p l:=fun l=>by
 have:∀ l:List α,p l.reverse:=fun l=>by
  induction l with
  |nil=>exact h0
  |cons a l ih=>rw [List.reverse_cons]; exact hs _ _ ih
 have q:=this l.reverse
 rw [List.reverse_reverse] at q
 exact q
theorem firstsBy_key (k:Nat→Nat) (ws:List Nat):∀ r ∈ firstsBy k ws,r.1=k r.2∧r.2 ∈ ws:=by
 refine list_snoc_ind (p:=fun ws=>∀ r ∈ firstsBy k ws,r.1=k r.2∧r.2 ∈ ws) (fun r hr=>by cases hr) (fun l x ih r hr=>?_) ws
 rw [firstsBy_snoc] at hr
 unfold addF at hr
 split at hr
 ·rw [List.mem_append,List.mem_singleton] at hr
  rcases hr with hr | rfl
  ·exact ⟨(ih r hr).1,List.mem_append_left _ (ih r hr).2⟩
  ·exact ⟨rfl,by simp⟩
 ·exact ⟨(ih r hr).1,List.mem_append_left _ (ih r hr).2⟩
theorem firstsBy_nd (k:Nat→Nat) (ws:List Nat):((firstsBy k ws).map (·.1)).Nodup:=by
 refine list_snoc_ind (p:=fun ws=>((firstsBy k ws).map (·.1)).Nodup) List.nodup_nil (fun l x ih=>?_) ws
 rw [firstsBy_snoc]
 unfold addF
 split
 ·rename_i h
  rw [List.map_append,List.nodup_append]
  refine ⟨ih,by simp,fun a ha b hb=>?_⟩
  rw [List.map_singleton,List.mem_singleton] at hb
  subst hb
  exact fun e=>far_none.mp h (by have e':a=k x:=e; rw [← e']; exact ha)
 ·exact ih
theorem firstsBy_find (k:Nat→Nat) (ws:List Nat):∀ P:Nat→Bool,(firstsBy k ws).find? (fun r=>P r.1)=(ws.find? fun x=>P (k x)).map fun x=>(k x,x):=by
 refine list_snoc_ind (p:=fun ws=>∀ P:Nat→Bool,(firstsBy k ws).find? (fun r=>P r.1)=(ws.find? fun x=>P (k x)).map fun x=>(k x,x)) (fun P=>rfl) (fun l x ih P=>?_) ws
 rw [firstsBy_snoc,List.find?_append]
 unfold addF
 split
 ·rw [List.find?_append,ih P]
  cases h:l.find? fun x=>P (k x) with
  |some y=>rfl
  |none=>
   rw [Option.map_none,Option.none_or,Option.none_or,List.find?_singleton,List.find?_singleton]
   by_cases q:P (k x)=true
   ·rw [if_pos q,if_pos q]; rfl
   ·rw [if_neg q,if_neg q]; rfl
 ·rename_i y hy
  rw [ih P]
  cases h:l.find? fun x=>P (k x) with
  |some z=>rfl
  |none=>
   rw [Option.none_or,List.find?_singleton]
   by_cases q:P (k x)=true
   ·exfalso
    have e:=ih P
    rw [h,Option.map_none,List.find?_eq_none] at e
    have hm:=(far_iff (firstsBy_nd k l)).mp hy
    exact e _ hm q
   ·rw [if_neg q]
def byP (ws way:List Nat):List (Nat × Nat):=(firstsBy (fun x=>x &&& orAll 0 way) ws).map fun r=>(plc r.2 way,r.2)
theorem byP_find (ws way:List Nat) (P:Nat→Bool):(byP ws way).find? (fun r=>P r.1)=(ws.find? fun x=>P (plc x way)).map fun x=>(plc x way,x):=by
 unfold byP
 rw [List.find?_map]
 have key:=firstsBy_key (fun x=>x &&& orAll 0 way) ws
 have e:(firstsBy (fun x=>x &&& orAll 0 way) ws).find? ((fun r:Nat × Nat=>P r.1) ∘ fun r:Nat × Nat=>(plc r.2 way,r.2))=(firstsBy (fun x=>x &&& orAll 0 way) ws).find? (fun r=>P (plc r.1 way)):=by
  revert key
  generalize firstsBy (fun x=>x &&& orAll 0 way) ws=l
  intro key
  induction l with
  |nil=>rfl
  |cons r l ih=>
   rw [List.find?_cons,List.find?_cons,ih fun r' hr'=>key r' (List.mem_cons_of_mem _ hr')]
   have h1:=(key r (by simp)).1
   have h2:P (plc r.1 way)=P (plc r.2 way):=by rw [h1,plc_cells]
   rw [h2]
   rfl
 rw [e,firstsBy_find (fun x=>x &&& orAll 0 way) ws fun c=>P (plc c way)]
 have e2:(ws.find? fun x=>P (plc (x &&& orAll 0 way) way))=ws.find? fun x=>P (plc x way):=by
  congr 1
  funext x
  rw [plc_cells]
 rw [e2,Option.map_map]
 rfl
theorem byP_nd (ws way:List Nat):((byP ws way).map (·.1)).Nodup:=by
 unfold byP
 rw [List.map_map]
 have h1:=firstsBy_nd (fun x=>x &&& orAll 0 way) ws
 have h2:=firstsBy_key (fun x=>x &&& orAll 0 way) ws
 revert h1 h2
 generalize firstsBy (fun x=>x &&& orAll 0 way) ws=l
 intro h1 h2
 induction l with
 |nil=>exact List.nodup_nil
 |cons r l ih=>
  rw [List.map_cons,List.nodup_cons] at h1 ⊢
  refine ⟨fun hm=>?_,ih h1.2 fun r' hr'=>h2 r' (List.mem_cons_of_mem _ hr')⟩
  obtain ⟨r',hr',e⟩:=List.mem_map.mp hm
  have e':plc r'.2 way=plc r.2 way:=e
  have q:=plc_inj e'
  apply h1.1
  refine List.mem_map.mpr ⟨r',hr',?_⟩
  rw [(h2 r' (List.mem_cons_of_mem _ hr')).1,(h2 r (by simp)).1]
  exact q
theorem byP_mem {ws way:List Nat} {r:Nat × Nat} (h:r ∈ byP ws way):r.1=plc r.2 way∧r.2 ∈ ws:=by
 unfold byP at h
 obtain ⟨r',hr',rfl⟩:=List.mem_map.mp h
 exact ⟨rfl,(firstsBy_key _ ws r' hr').2⟩
theorem byP_has {ws way:List Nat} {x:Nat} (h:x ∈ ws):∃ r ∈ byP ws way,r.1=plc x way:=by
 cases e:(byP ws way).find? (fun r=>(fun c=>decide (c=plc x way)) r.1) with
 |some r=>exact ⟨r,List.mem_of_find?_eq_some e,by have:=List.find?_some e; simpa using this⟩
 |none=>
  have e2:=byP_find ws way fun c=>decide (c=plc x way)
  rw [e] at e2
  have e3:(ws.find? fun y=>decide (plc y way=plc x way))=none:=by
   cases q:(ws.find? fun y=>decide (plc y way=plc x way)) with
   |none=>rfl
   |some z=>rw [q] at e2; cases e2
  exact absurd (decide_eq_true rfl) (List.find?_eq_none.mp e3 x h)
theorem byP_ne {ws way:List Nat} (h:ws ≠ []):byP ws way ≠ []:=by
 cases ws with
 |nil=>exact absurd rfl h
 |cons x l=>
  obtain ⟨r,hr,_⟩:=byP_has (ws:=x::l) (way:=way) (x:=x) (by simp)
  exact List.ne_nil_of_mem hr
theorem foldl_max (f:Nat→Nat):∀ (l:List Nat) (a:Nat),a≤l.foldl (fun m x=>max m (f x)) a∧(∀ x ∈ l,f x≤l.foldl (fun m x=>max m (f x)) a)∧(l.foldl (fun m x=>max m (f x)) a=a∨∃ x ∈ l,l.foldl (fun m x=>max m (f x)) a=f x)
 | [],a=>⟨Nat.le_refl _,⟨fun x hx=>absurd hx (by simp),Or.inl rfl⟩⟩
 |y::l,a=>by
  obtain ⟨h1,h2,h3⟩:=foldl_max f l (max a (f y))
  rw [List.foldl_cons]
  refine ⟨by omega,fun x hx=>?_,?_⟩
  ·rcases List.mem_cons.mp hx with rfl | hx
   ·omega
   ·exact h2 x hx
  ·rcases h3 with h3 | ⟨x,hx,h3⟩
   ·by_cases q:a≤f y
    ·exact .inr ⟨y,by simp,by omega⟩
    ·exact .inl (by omega)
   ·exact .inr ⟨x,List.mem_cons_of_mem _ hx,h3⟩
theorem max_holes {ws way:List Nat} {m:Nat} (hm:m ∈ (byP ws way).map fun r=>pcL way.length r.1) (hu:∀ y ∈ (byP ws way).map fun r=>pcL way.length r.1,y≤m) :
  m=ws.foldl (fun m x=>max m (way.filter fun c=>hole x c).length) 0:=by
 obtain ⟨_,h2,h3⟩:=foldl_max (fun x=>(way.filter fun c=>hole x c).length) ws 0
 obtain ⟨r,hr,rfl⟩:=List.mem_map.mp hm
 obtain ⟨e1,e2⟩:=byP_mem hr
 have a:=h2 r.2 e2
 rw [← plc_count,← e1] at a
 refine Nat.le_antisymm a ?_
 rcases h3 with h3 | ⟨x,hx,h3⟩
 ·rw [h3]; exact Nat.zero_le _
 ·rw [h3]
  obtain ⟨r',hr',e'⟩:=byP_has (way:=way) hx
  have:=hu _ (List.mem_map.mpr ⟨r',hr',rfl⟩)
  rw [e',plc_count] at this
  exact this
def standN (L s t:Nat):Nat→Nat
 | 0=>0
 |n + 1=>if n * s≤t∧t - n * s < L then standN L s t n ||| 2 ^ (t - n * s) else standN L s t n
theorem standN_bit {L s t:Nat}:∀ {n i:Nat},(standN L s t n).testBit i=true→i < L∧∃ m,m < n∧m * s≤t∧i=t - m * s
 | 0,i,h=>by simp [standN] at h
 |n + 1,i,h=>by
  unfold standN at h
  split at h
  ·rename_i hc
   rw [Nat.testBit_or,Nat.testBit_two_pow,Bool.or_eq_true] at h
   rcases h with h | h
   ·obtain ⟨h1,m,h2,h3⟩:=standN_bit h
    exact ⟨h1,m,by omega,h3⟩
   ·have:=of_decide_eq_true h
    subst this
    exact ⟨hc.2,n,by omega,hc.1,rfl⟩
  ·obtain ⟨h1,m,h2,h3⟩:=standN_bit h
   exact ⟨h1,m,by omega,h3⟩
theorem pcL_add {L a b j:Nat} (hj:j < L) (hb:b.testBit j=false):pcL L (a &&& (b ||| 2 ^ j))=pcL L (a &&& b) + if a.testBit j=true then 1 else 0:=by
 unfold pcL
 have key:∀ L,(List.range L).countP (fun i=>(a &&& (b ||| 2 ^ j)).testBit i)=(List.range L).countP (fun i=>(a &&& b).testBit i) + if j < L∧a.testBit j=true then 1 else 0:=by
  intro L
  induction L with
  |zero=>simp
  |succ L ih=>
   rw [List.range_succ,List.countP_append,List.countP_append,ih,List.countP_singleton,List.countP_singleton,Nat.testBit_and,Nat.testBit_and,Nat.testBit_or,Nat.testBit_two_pow]
   by_cases e:j=L
   ·subst e
    rw [hb]
    have h1:¬ j < j:=Nat.lt_irrefl _
    cases a.testBit j <;> simp [h1]
   ·have h1:(j < L + 1)↔j < L:=by omega
    rw [decide_eq_false e,Bool.or_false]
    have h2:(if j < L + 1∧a.testBit j=true then 1 else 0)=if j < L∧a.testBit j=true then 1 else 0:=by
     by_cases q:j < L
     ·simp [q,h1]
     ·simp [q,h1]
    rw [h2]
    omega
 rw [key]
 simp [hj]
theorem fallen_eq {x:Nat} {p:List Nat} {s t:Nat} (hs:1≤s):∀ n,pcL p.length (plc x p &&& standN p.length s t n)=fallen x p n s t
 | 0=>by
  unfold fallen standN
  rw [Nat.and_zero,pcL_zero]; rfl
 |n + 1=>by
  have ih:=fallen_eq (x:=x) (p:=p) (t:=t) hs n
  unfold fallen at ih ⊢
  rw [List.range_succ,List.filter_append,List.length_append,← ih,List.filter_cons,List.filter_nil]
  have hst:standN p.length s t (n + 1)=if n * s≤t∧t - n * s < p.length then standN p.length s t n ||| 2 ^ (t - n * s) else standN p.length s t n:=rfl
  rw [hst]
  by_cases hc:n * s≤t∧t - n * s < p.length
  ·rw [if_pos hc,pcL_add hc.2,plc_bit]
   ·congr 1
    have e:standAt p s t n=p[t - n * s]?:=by unfold standAt; rw [if_pos hc.1]
    rw [e]
    split <;> rfl
   ·cases hb:(standN p.length s t n).testBit (t - n * s) with
    |false=>rfl
    |true=>
     exfalso
     obtain ⟨_,m,h1,h2,h3⟩:=standN_bit hb
     have h4:m * s + s≤n * s:=by
      have:=Nat.mul_le_mul_right s (show m + 1≤n by omega)
      rw [Nat.add_mul,Nat.one_mul] at this
      exact this
     omega
  ·rw [if_neg hc]
   have e:standAt p s t n=none:=by
    unfold standAt
    by_cases h1:n * s≤t
    ·rw [if_pos h1]
     exact List.getElem?_eq_none (by omega)
    ·rw [if_neg h1]
   rw [e]
   rfl
theorem stand_lt (L s t n:Nat) (a:Nat) (h:a < 2 ^ L):a &&& standN L s t n < 2 ^ L:=Nat.lt_of_le_of_lt Nat.and_le_left h
theorem fallen_late {x:Nat} {p:List Nat} {n s t:Nat} (h:p.length + (n - 1) * s≤t):fallen x p n s t=0:=by
 unfold fallen
 rw [List.length_eq_zero_iff,List.filter_eq_nil_iff]
 intro i hi
 rw [List.mem_range] at hi
 have h1:i * s≤(n - 1) * s:=Nat.mul_le_mul_right s (by omega)
 unfold standAt
 rw [if_pos (by omega),List.getElem?_eq_none (by omega)]
 simp
theorem holds_iff (n hold f:Nat):(!holds n hold f)=decide (n < f * (hold + 1)):=by
 unfold holds
 rw [Nat.mul_add,Nat.mul_one]
 by_cases h:f * hold + f≤n
 ·rw [decide_eq_true h,decide_eq_false (by omega)]; rfl
 ·rw [decide_eq_false h,decide_eq_true (by omega)]; rfl
def tooMuch (L n s hold t:Nat) (pl:Nat):Bool:=decide (n < pcL L (pl &&& standN L s t n) * (hold + 1))
theorem tooMuch_eq {x:Nat} {p:List Nat} {n s hold t:Nat} (hs:1≤s):tooMuch p.length n s hold t (plc x p)=!holds n hold (fallen x p n s t):=by
 unfold tooMuch
 rw [fallen_eq hs,holds_iff]
theorem breaks_none {ws p:List Nat} {n s hold:Nat} (hs:1≤s) (h:∀ t,t < p.length + (n - 1) * s→(byP ws p).find? (fun r=>tooMuch p.length n s hold t r.1)=none):breaks ws p n s hold=none:=by
 unfold breaks
 have e:(List.range (lastTime p n s)).find? (fun t=>ws.any fun x=>!holds n hold (fallen x p n s t))=none:=by
  rw [List.find?_eq_none]
  intro t _ hany
  rw [List.any_eq_true] at hany
  obtain ⟨x,hx,hh⟩:=hany
  by_cases ht:t < p.length + (n - 1) * s
  ·have h1:=h t ht
   rw [byP_find ws p (tooMuch p.length n s hold t)] at h1
   have h2:(ws.find? fun x=>tooMuch p.length n s hold t (plc x p))=none:=by
    cases q:(ws.find? fun x=>tooMuch p.length n s hold t (plc x p)) with
    |none=>rfl
    |some z=>rw [q] at h1; cases h1
   refine List.find?_eq_none.mp h2 x hx ?_
   rw [tooMuch_eq hs]
   exact hh
  ·rw [fallen_late (by omega),holds_iff] at hh
   have:=of_decide_eq_true hh
   omega
 rw [e]
theorem find_first {p:Nat→Bool} {n d:Nat} (hd:d < n) (h:p d=true) (hn:∀ d',d' < d→p d'=false):(List.range n).find? p=some d:=by
 induction n with
 |zero=>omega
 |succ n ih=>
  rw [List.range_succ,List.find?_append]
  by_cases e:d < n
  ·rw [ih e]; rfl
  ·have:d=n:=by omega
   subst this
   have h0:(List.range d).find? p=none:=by
    rw [List.find?_eq_none]
    intro x hx
    rw [hn x (List.mem_range.mp hx)]
    decide
   rw [h0,Option.none_or,List.find?_singleton,if_pos h]
theorem any_find (l:List Nat) (q:Nat→Bool):l.any q=(l.find? q).isSome:=by
 induction l with
 |nil=>rfl
 |cons a l ih=>
  rw [List.any_cons,List.find?_cons,ih]
  cases q a <;> rfl
theorem firstsBy_len (k:Nat→Nat) (ws:List Nat):(firstsBy k ws).length≤ws.length:=by
 refine list_snoc_ind (p:=fun ws=>(firstsBy k ws).length≤ws.length) (Nat.le_refl _) (fun l x ih=>?_) ws
 rw [firstsBy_snoc,List.length_append,List.length_singleton]
 unfold addF
 split
 ·rw [List.length_append,List.length_singleton]; omega
 ·omega
theorem breaks_some {ws p:List Nat} {n s hold t:Nat} {r:Nat × Nat} (hs:1≤s) (ht:t < p.length + (n - 1) * s) (hr:(byP ws p).find? (fun r=>tooMuch p.length n s hold t r.1)=some r)
  (h:∀ t',t' < t→(byP ws p).find? (fun r=>tooMuch p.length n s hold t' r.1)=none):breaks ws p n s hold=some (t,r.2)∧pcL p.length (r.1 &&& standN p.length s t n)=fallen r.2 p n s t∧r.2 ∈ ws:=by
 have hb:∀ t',(ws.find? fun x=>!holds n hold (fallen x p n s t'))=(ws.find? fun x=>tooMuch p.length n s hold t' (plc x p)):=fun t'=>by
  congr 1
  funext x
  rw [tooMuch_eq hs]
 have hany:∀ t',(ws.any fun x=>!holds n hold (fallen x p n s t'))=(ws.find? fun x=>!holds n hold (fallen x p n s t')).isSome:=fun t'=>by
  exact any_find ws _
 rw [byP_find ws p (tooMuch p.length n s hold t)] at hr
 obtain ⟨x,hx,rfl⟩:=Option.map_eq_some_iff.mp hr
 refine ⟨?_,fallen_eq hs n,List.mem_of_find?_eq_some hx⟩
 unfold breaks
 have hns:(n - 1) * s≤n * s:=Nat.mul_le_mul_right s (by omega)
 rw [find_first (d:=t) (by unfold lastTime; omega) (by rw [hany,hb,hx]; rfl) (fun t' ht'=>by
  rw [hany,hb]
  have h1:=h t' ht'
  rw [byP_find ws p (tooMuch p.length n s hold t')] at h1
  cases q:(ws.find? fun x=>tooMuch p.length n s hold t' (plc x p)) with
  |none=>rfl
  |some z=>rw [q] at h1; cases h1)]
 show (ws.find? fun x=>!holds n hold (fallen x p n s t)).map (fun x=>(t,x))=_
 rw [hb,hx]
 rfl
end Rp
namespace Rp
open Vbexai
structure FormOk (f:Vbexai.Form):Prop where
 w1:1≤f.w
 w6:f.w≤6
 h1:1≤f.h
 h6:f.h≤6
 l1:1≤f.least
 lm:f.least≤f.most
 m4:f.most≤4
 y2:f.many≤2
theorem FormOk.wh {f:Vbexai.Form} (h:FormOk f):f.w * f.h≤36:=Nat.mul_le_mul h.w6 h.h6
theorem FormOk.wh1 {f:Vbexai.Form} (h:FormOk f):1≤f.w * f.h:=Nat.mul_le_mul h.w1 h.h1
structure StOk (st:Vbexai.St):Prop where
 fo:FormOk st.form
 left:st.left=(worlds st.form).filter fun x=>agrees x st.finds
 ne:st.left ≠ []
 nd:(st.finds.map (·.1)).Nodup
 lt:∀ p ∈ st.finds,p.1 < st.form.w * st.form.h
 len:(worlds st.form).length≤100000
theorem StOk.left_len {st:Vbexai.St} (h:StOk st):st.left.length≤100000:=by
 rw [h.left]
 exact Nat.le_trans (List.length_filter_le _ _) h.len
theorem worlds_lt {f:Vbexai.Form} (h:FormOk f) {x:Nat} (hx:x ∈ worlds f):x < 2 ^ (f.w * f.h):=worldsOf_lt f h.l1 _ hx
theorem StOk.left_lt {st:Vbexai.St} (h:StOk st):∀ x ∈ st.left,x < 2 ^ (st.form.w * st.form.h):=fun x hx=>by
 rw [h.left] at hx
 exact worlds_lt h.fo (List.mem_filter.mp hx).1
theorem zero_world (f:Form):∀ k,0 ∈ worldsOf f k
 | 0=>by simp [worldsOf]
 |k + 1=>(mem_worlds_succ f k 0).mpr (.inl (zero_world f k))
theorem worlds_ne (f:Form):worlds f ≠ []:=List.ne_nil_of_mem (zero_world f _)
theorem agrees_snoc (x:Nat) (l:List Find) (p:Find):agrees x (l ++ [p])=(agrees x l && (hole x p.1 == p.2)):=by
 unfold agrees
 rw [List.all_append,List.all_cons,List.all_nil,Bool.and_true]
theorem made_ok {f:Form} (h:FormOk f) (hl:(worlds f).length≤100000):StOk (made f []):=by
 have e:(worlds f).filter (fun x=>agrees x [])=worlds f:=List.filter_eq_self.mpr fun _ _=>rfl
 refine ⟨h,rfl,?_,List.nodup_nil,fun p hp=>absurd hp (by show ¬ p ∈ ([]:List Find); simp),hl⟩
 show (worlds f).filter (fun x=>agrees x []) ≠ []
 rw [e]
 exact worlds_ne f
theorem made_left {f:Form}:(made f []).left=worlds f:=List.filter_eq_self.mpr fun _ _=>rfl
theorem found_ok {st:Vbexai.St} (h:StOk st) {c:Nat} {b:Bool} (hc:c < st.form.w * st.form.h) (hn:c ∉ st.finds.map (·.1)) (hne:(st.left.filter fun x=>hole x c == b) ≠ []):StOk { st with finds:=st.finds ++ [(c,b)],left:=st.left.filter fun x=>hole x c == b }:=by
 refine ⟨h.fo,?_,hne,?_,fun p hp=>?_,h.len⟩
 ·show st.left.filter (fun x=>hole x c == b)=(worlds st.form).filter fun x=>agrees x (st.finds ++ [(c,b)])
  rw [h.left,List.filter_filter]
  congr 1
  funext x
  rw [agrees_snoc,Bool.and_comm]
 ·show ((st.finds ++ [(c,b)]).map (·.1)).Nodup
  rw [List.map_append,List.nodup_append]
  refine ⟨h.nd,by simp,fun a ha b' hb e=>?_⟩
  rw [List.map_singleton,List.mem_singleton] at hb
  have e':a=c:=e.trans hb
  rw [e'] at ha
  exact hn ha
 ·have hp:p ∈ st.finds ++ [(c,b)]:=hp
  rw [List.mem_append,List.mem_singleton] at hp
  rcases hp with hp | rfl
  ·exact h.lt p hp
  ·exact hc
theorem undo_ok {st:Vbexai.St} (h:StOk st) (c:Nat):StOk (made st.form (st.finds.filter fun p=>p.1 != c)):=by
 have sub:∀ x,agrees x st.finds=true→agrees x (st.finds.filter fun p=>p.1 != c)=true:=fun x hx=>by
  unfold agrees at hx ⊢
  rw [List.all_eq_true] at hx ⊢
  intro p hp
  exact hx p (List.mem_filter.mp hp).1
 refine ⟨h.fo,rfl,?_,?_,fun p hp=>?_,h.len⟩
 ·obtain ⟨x,hx⟩:=List.exists_mem_of_ne_nil _ h.ne
  rw [h.left,List.mem_filter] at hx
  exact List.ne_nil_of_mem (List.mem_filter.mpr ⟨hx.1,sub x hx.2⟩)
 ·exact (List.filter_sublist.map _).nodup h.nd
 ·exact h.lt p (List.mem_filter.mp hp).1
theorem status_eq (st:Vbexai.St) (c:Nat):statusOf st c=if (orW st.left).testBit c=false then 0 else if (andW (orW st.left) st.left).testBit c=true then 1 else 2:=by
 unfold statusOf
 have e1:(st.left.all fun x=>!hole x c)=!(orW st.left).testBit c:=by
  rw [orW_bit,List.not_any_eq_all_not]
  congr 1
  funext x
  rw [hole_eq]
 have e2:(st.left.all fun x=>hole x c)=st.left.all fun x=>x.testBit c:=by
  congr 1
  funext x
  rw [hole_eq]
 rw [e1,e2,andW_bit]
 cases (orW st.left).testBit c <;> simp
theorem unfound_eq (st:Vbexai.St):unfound st=(List.range (st.form.w * st.form.h)).filter fun c=>decide (c ∉ st.finds.map (·.1)):=by
 unfold unfound cellsOf
 congr 1
 funext c
 have:(st.finds.any fun p=>p.1 == c)=decide (c ∈ st.finds.map (·.1)):=by
  induction st.finds with
  |nil=>rfl
  |cons a l ih=>
   rw [List.any_cons,ih,List.map_cons]
   by_cases e:a.1=c
   ·simp [e]
   ·have e':¬ c=a.1:=fun z=>e z.symm
    simp [e,e']
 rw [this]
 simp
theorem any_find_iff (l:List Find) (c:Nat):(l.any fun p=>p.1 == c)=decide (c ∈ l.map (·.1)):=by
 induction l with
 |nil=>rfl
 |cons a l ih=>
  rw [List.any_cons,ih,List.map_cons]
  by_cases e:a.1=c
  ·simp [e]
  ·have e':¬ c=a.1:=fun z=>e z.symm
   simp [e,e']
end Rp
namespace Rp
open Vbexai
def bmT (p:Nat→Bool) (ws:List Nat) (i:Nat):Nat:=orAll 0 ((List.range i).filter fun j=>(ws[j]?).any p)
def bm (p:Nat→Bool) (ws:List Nat):Nat:=bmT p ws ws.length
theorem bmT_succ {p:Nat→Bool} {ws:List Nat} {i x:Nat} (h:ws[i]?=some x):bmT p ws (i + 1)=if p x=true then bmT p ws i ||| 2 ^ i else bmT p ws i:=by
 unfold bmT
 rw [List.range_succ,List.filter_append,List.filter_cons,List.filter_nil,h]
 have e:(some x).any p=p x:=rfl
 rw [e]
 by_cases q:p x=true
 ·rw [if_pos q,if_pos q,orAll_snoc]
 ·rw [if_neg q,if_neg q,List.append_nil]
theorem bm_bit (p:Nat→Bool) (ws:List Nat) (i:Nat):(bm p ws).testBit i=(ws[i]?).any p:=by
 unfold bm bmT
 rw [orAll_bit,Nat.zero_testBit,Bool.false_or]
 by_cases h:i < ws.length
 ·have:(i ∈ (List.range ws.length).filter fun j=>(ws[j]?).any p)↔(ws[i]?).any p=true:=by
   rw [List.mem_filter,List.mem_range]
   exact ⟨fun z=>z.2,fun z=>⟨h,z⟩⟩
  by_cases q:(ws[i]?).any p=true
  ·rw [decide_eq_true (this.mpr q),q]
  ·rw [decide_eq_false (fun z=>q (this.mp z))]
   exact (Bool.eq_false_iff.mpr q).symm
 ·have:¬ i ∈ (List.range ws.length).filter fun j=>(ws[j]?).any p:=by
   rw [List.mem_filter,List.mem_range]
   exact fun z=>h z.1
  rw [decide_eq_false this,List.getElem?_eq_none (by omega)]
  rfl
theorem bm_and (p q:Nat→Bool) (ws:List Nat):bm p ws &&& bm q ws=bm (fun x=>p x && q x) ws:=by
 apply Nat.eq_of_testBit_eq
 intro i
 rw [Nat.testBit_and,bm_bit,bm_bit,bm_bit]
 cases ws[i]? <;> rfl
theorem bm_xor (p q:Nat→Bool) (ws:List Nat):bm p ws ^^^ bm (fun x=>p x && q x) ws=bm (fun x=>p x && !q x) ws:=by
 apply Nat.eq_of_testBit_eq
 intro i
 rw [Nat.testBit_xor,bm_bit,bm_bit,bm_bit]
 cases ws[i]? with
 |none=>rfl
 |some x=>
  show Bool.xor (p x) (p x && q x)=(p x && !q x)
  cases p x <;> cases q x <;> rfl
theorem bm_zero (p:Nat→Bool) (ws:List Nat):bm p ws=0↔∀ x ∈ ws,p x=false:=by
 constructor
 ·intro h x hx
  obtain ⟨i,hi⟩:=List.mem_iff_getElem?.mp hx
  have:=bm_bit p ws i
  rw [h,Nat.zero_testBit,hi] at this
  exact this.symm
 ·intro h
  apply Nat.eq_of_testBit_eq
  intro i
  rw [bm_bit,Nat.zero_testBit]
  cases e:ws[i]? with
  |none=>rfl
  |some x=>exact h x (List.mem_of_getElem? e)
theorem bm_eq (p q:Nat→Bool) (ws:List Nat):bm p ws=bm q ws↔∀ x ∈ ws,p x=q x:=by
 constructor
 ·intro h x hx
  obtain ⟨i,hi⟩:=List.mem_iff_getElem?.mp hx
  have h1:=bm_bit p ws i
  have h2:=bm_bit q ws i
  rw [hi] at h1 h2
  rw [h,h2] at h1
  exact h1.symm
 ·intro h
  apply Nat.eq_of_testBit_eq
  intro i
  rw [bm_bit,bm_bit]
  cases e:ws[i]? with
  |none=>rfl
  |some x=>exact h x (List.mem_of_getElem? e)
theorem bm_all (ws:List Nat):bm (fun _=>true) ws=2 ^ ws.length - 1:=by
 apply Nat.eq_of_testBit_eq
 intro i
 rw [bm_bit,Nat.testBit_two_pow_sub_one]
 by_cases h:i < ws.length
 ·rw [List.getElem?_eq_getElem h,decide_eq_true h]; rfl
 ·rw [List.getElem?_eq_none (by omega),decide_eq_false h]; rfl
def ddA (l:List Nat) (c:Nat):List Nat:=if c ∈ l then l else l ++ [c]
def dd (l:List Nat):List Nat:=l.foldl ddA []
theorem dd_snoc (l:List Nat) (c:Nat):dd (l ++ [c])=ddA (dd l) c:=by
 unfold dd
 rw [List.foldl_append]; rfl
theorem dd_mem (l:List Nat):∀ c,c ∈ dd l↔c ∈ l:=by
 refine list_snoc_ind (p:=fun l=>∀ c,c ∈ dd l↔c ∈ l) (fun c=>Iff.rfl) (fun l x ih c=>?_) l
 rw [dd_snoc]
 unfold ddA
 split
 ·rename_i h
  rw [ih,List.mem_append,List.mem_singleton]
  constructor
  ·exact .inl
  ·rintro (z | rfl)
   ·exact z
   ·exact (ih _).mp h
 ·rw [List.mem_append,List.mem_append,ih]
theorem dd_len (l:List Nat):(dd l).length≤l.length:=by
 refine list_snoc_ind (p:=fun l=>(dd l).length≤l.length) (Nat.le_refl _) (fun l x ih=>?_) l
 rw [dd_snoc,List.length_append,List.length_singleton]
 unfold ddA
 split
 ·omega
 ·rw [List.length_append,List.length_singleton]; omega
theorem dd_self {l:List Nat} (h:l.Nodup):dd l=l:=by
 revert h
 refine list_snoc_ind (p:=fun l=>l.Nodup→dd l=l) (fun _=>rfl) (fun l x ih h=>?_) l
 rw [List.nodup_append] at h
 obtain ⟨h1,h2,h3⟩:=h
 rw [dd_snoc,ih h1]
 unfold ddA
 rw [if_neg (fun z=>h3 x z x (by simp) rfl)]
def wk (ks:List Nat) (v:Nat→Nat):List (Nat × Nat):=ks.map fun c=>(c,v c)
theorem wk_keys (ks:List Nat) (v:Nat→Nat):(wk ks v).map (·.1)=ks:=by
 unfold wk
 rw [List.map_map]
 exact List.map_id' _
theorem wk_far {ks:List Nat} (v:Nat→Nat) {c:Nat} (h:c ∈ ks):far (wk ks v) c=some (v c):=by
 unfold far wk
 induction ks with
 |nil=>cases h
 |cons a l ih=>
  rw [List.map_cons,List.find?_cons]
  by_cases e:a=c
  ·subst e; simp
  ·have:((a,v a).1 == c)=false:=by simpa using e
   rw [this]
   rcases List.mem_cons.mp h with h | h
   ·exact absurd h.symm e
   ·exact ih h
theorem wk_far_none {ks:List Nat} (v:Nat→Nat) {c:Nat} (h:c ∉ ks):far (wk ks v) c=none:=far_none.mpr (by rw [wk_keys]; exact h)
theorem struck_eq (ws way:List Nat):∀ z:Nat,(∀ i,z.testBit i=(dd way).any fun c=>(bm (fun x=>hole x c) ws).testBit i)→z=bm (fun x=>!clear x way) ws:=by
 intro z h
 apply Nat.eq_of_testBit_eq
 intro i
 rw [h,bm_bit]
 have e:((dd way).any fun c=>(bm (fun x=>hole x c) ws).testBit i)=(dd way).any fun c=>(ws[i]?).any fun x=>hole x c:=by
  congr 1
  funext c
  rw [bm_bit]
 rw [e]
 cases ws[i]? with
 |none=>
  show (dd way).any (fun _=>false)=false
  rw [List.any_eq_false]; intro _ _; decide
 |some x=>
  show ((dd way).any fun c=>hole x c)=!clear x way
  unfold clear
  rw [List.not_all_eq_any_not]
  have:(way.any fun c=>!!hole x c)=way.any fun c=>hole x c:=by
   congr 1
   funext c
   exact Bool.not_not _
  rw [this]
  rw [Bool.eq_iff_iff,List.any_eq_true,List.any_eq_true]
  constructor
  ·rintro ⟨c,h1,h2⟩
   exact ⟨c,(dd_mem way c).mp h1,h2⟩
  ·rintro ⟨c,h1,h2⟩
   exact ⟨c,(dd_mem way c).mpr h1,h2⟩
section
variable (ws way:List Nat)
def cov:Nat→List Nat→(Nat→Bool)→Option (List Nat)
 | 0,_,p=>if (ws.all fun x=>!p x || clear x way)=true then some [] else none
 |_ + 1,[],_=>none
 |k + 1,c::cs,p=>if (ws.any fun x=>p x && !hole x c)=true then (match cov k cs (fun x=>p x && !hole x c) with
  |some r=>some (c::r)
  |none=>cov (k + 1) cs p) else cov (k + 1) cs p
def covP (p:Nat→Bool) (g:List Nat):Bool:=(ws.any fun x=>p x && g.all fun c=>!hole x c) && ws.all fun x=>!p x || (clear x way || g.any fun c=>hole x c)
theorem covP_cons (p:Nat→Bool) (c:Nat) (r:List Nat):covP ws way p (c::r)=covP ws way (fun x=>p x && !hole x c) r:=by
 unfold covP
 congr 1
 ·congr 1
  funext x
  rw [List.all_cons,Bool.and_assoc]
 ·congr 1
  funext x
  rw [List.any_cons]
  generalize (r.any fun c=>hole x c)=z
  show (!p x || (clear x way || (hole x c || z)))=(!(p x && !hole x c) || (clear x way || z))
  cases p x <;> cases hole x c <;> cases clear x way <;> cases z <;> rfl
theorem cov_eq:∀ (k:Nat) (cells:List Nat) (p:Nat→Bool),(ws.any p)=true→cov ws way k cells p=(chosen k cells).find? (covP ws way p)
 | 0,cells,p,h=>by
  have e:covP ws way p []=ws.all fun x=>!p x || clear x way:=by
   unfold covP
   have e1:(ws.any fun x=>p x && ([]:List Nat).all fun c=>!hole x c)=ws.any p:=by
    congr 1
    funext x
    simp
   rw [e1,h,Bool.true_and]
   congr 1
   funext x
   simp
  unfold cov
  have e2:chosen 0 cells=[[]]:=by cases cells <;> rfl
  rw [e2,List.find?_singleton,e]
 |k + 1,[],p,h=>rfl
 |k + 1,c::cs,p,h=>by
  have ih1:=cov_eq (k + 1) cs p h
  unfold cov
  have e2:chosen (k + 1) (c::cs)=((chosen k cs).map fun r=>c::r) ++ chosen (k + 1) cs:=rfl
  rw [e2,List.find?_append,← ih1,List.find?_map]
  have e3:(covP ws way p ∘ fun r=>c::r)=covP ws way (fun x=>p x && !hole x c):=by
   funext r
   exact covP_cons ws way p c r
  rw [e3]
  by_cases q:(ws.any fun x=>p x && !hole x c)=true
  ·rw [if_pos q,← cov_eq k cs _ q]
   cases cov ws way k cs (fun x=>p x && !hole x c) <;> rfl
  ·rw [if_neg q]
   have e4:(chosen k cs).find? (covP ws way (fun x=>p x && !hole x c))=none:=by
    rw [List.find?_eq_none]
    intro r _ hr
    unfold covP at hr
    rw [Bool.and_eq_true] at hr
    apply q
    rw [List.any_eq_true] at hr ⊢
    obtain ⟨⟨x,hx,h2⟩,_⟩:=hr
    rw [Bool.and_eq_true] at h2
    exact ⟨x,hx,h2.1⟩
   rw [e4]
   rfl
theorem covP_all (g:List Nat):covP ws way (fun _=>true) g=covers ws way g:=by
 unfold covP covers
 simp
theorem cov_all (h:ws ≠ []) (k:Nat) (cells:List Nat):cov ws way k cells (fun _=>true)=(chosen k cells).find? fun g=>covers ws way g:=by
 rw [cov_eq]
 ·have e:covP ws way (fun _=>true)=fun g=>covers ws way g:=funext fun g=>covP_all ws way g
  rw [e]
 ·cases ws with
  |nil=>exact absurd rfl h
  |cons a l=>rfl
def setl (p:Nat→Bool):Bool:=(ws.all fun x=>!p x || clear x way) || ws.all fun x=>!p x || !clear x way
theorem all_filter (p q:Nat→Bool):(ws.filter p).all q=ws.all fun x=>!p x || q x:=by
 induction ws with
 |nil=>rfl
 |cons a l ih=>
  rw [List.filter_cons,List.all_cons,← ih]
  cases h:p a <;> simp
theorem setl_eq (p:Nat→Bool):setl ws way p=settled (ws.filter p) way:=by
 unfold setl settled
 rw [all_filter,all_filter]
def prop (p:Nat→Bool) (c:Nat):Bool:=(ws.any fun x=>p x && hole x c) && ws.any fun x=>p x && !hole x c
def en (cells:List Nat):Nat→(Nat→Bool)→Bool
 | 0,p=>setl ws way p
 |k + 1,p=>setl ws way p || cells.any fun c=>prop ws p c && (en cells k (fun x=>p x && hole x c) && en cells k (fun x=>p x && !hole x c))
theorem en_mono (cells:List Nat):∀ (k:Nat) (p:Nat→Bool),en ws way cells k p=true→en ws way cells (k + 1) p=true
 | 0,p,h=>by
  have h:setl ws way p=true:=h
  show (setl ws way p || _)=true
  rw [h]; rfl
 |k + 1,p,h=>by
  have h:(setl ws way p || cells.any fun c=>prop ws p c && (en ws way cells k (fun x=>p x && hole x c) && en ws way cells k (fun x=>p x && !hole x c)))=true:=h
  show (setl ws way p || cells.any fun c=>prop ws p c && (en ws way cells (k + 1) (fun x=>p x && hole x c) && en ws way cells (k + 1) (fun x=>p x && !hole x c)))=true
  rw [Bool.or_eq_true] at h ⊢
  rcases h with h | h
  ·exact .inl h
  ·refine .inr ?_
   rw [List.any_eq_true] at h ⊢
   obtain ⟨c,hc,h2⟩:=h
   rw [Bool.and_eq_true,Bool.and_eq_true] at h2
   exact ⟨c,hc,by rw [h2.1,en_mono cells k _ h2.2.1,en_mono cells k _ h2.2.2]; rfl⟩
theorem filter_and (p q:Nat→Bool):(ws.filter p).filter q=ws.filter fun x=>p x && q x:=by
 rw [List.filter_filter]
 congr 1
 funext x
 exact Bool.and_comm _ _
theorem filter_same {p q:Nat→Bool} (h:∀ x ∈ ws,p x=q x):ws.filter p=ws.filter q:=List.filter_congr h
theorem en_known (cells:List Nat):∀ (k:Nat) (p:Nat→Bool),en ws way cells k p=known cells way k (ws.filter p)
 | 0,p=>setl_eq ws way p
 |k + 1,p=>by
  show (setl ws way p || cells.any fun c=>prop ws p c && (en ws way cells k (fun x=>p x && hole x c) && en ws way cells k (fun x=>p x && !hole x c))) =
   (settled (ws.filter p) way || cells.any fun c=>known cells way k ((ws.filter p).filter fun x=>hole x c) && known cells way k ((ws.filter p).filter fun x=>!hole x c))
  rw [setl_eq]
  have e:∀ c,(known cells way k ((ws.filter p).filter fun x=>hole x c) && known cells way k ((ws.filter p).filter fun x=>!hole x c))=(en ws way cells k (fun x=>p x && hole x c) && en ws way cells k (fun x=>p x && !hole x c)):=fun c=>by
   rw [filter_and,filter_and,en_known cells k,en_known cells k]
  have e':(cells.any fun c=>known cells way k ((ws.filter p).filter fun x=>hole x c) && known cells way k ((ws.filter p).filter fun x=>!hole x c))=cells.any fun c=>en ws way cells k (fun x=>p x && hole x c) && en ws way cells k (fun x=>p x && !hole x c):=by
   congr 1
   funext c
   exact e c
  rw [e']
  rw [Bool.eq_iff_iff,Bool.or_eq_true,Bool.or_eq_true]
  constructor
  ·rintro (h | h)
   ·exact .inl h
   ·refine .inr ?_
    rw [List.any_eq_true] at h ⊢
    obtain ⟨c,hc,h2⟩:=h
    rw [Bool.and_eq_true] at h2
    exact ⟨c,hc,h2.2⟩
  ·rintro (h | h)
   ·exact .inl h
   ·rw [List.any_eq_true] at h
    obtain ⟨c,hc,h2⟩:=h
    by_cases q:prop ws p c=true
    ·refine .inr ?_
     rw [List.any_eq_true]
     exact ⟨c,hc,by rw [q,h2]; rfl⟩
    ·rw [Bool.and_eq_true] at h2
     have hp:en ws way cells k p=true:=by
      unfold prop at q
      rw [Bool.and_eq_true] at q
      by_cases q1:(ws.any fun x=>p x && hole x c)=true
      ·have q2:¬ (ws.any fun x=>p x && !hole x c)=true:=fun z=>q ⟨q1,z⟩
       have e5:ws.filter (fun x=>p x && hole x c)=ws.filter p:=filter_same ws fun x hx=>by
        have:¬ ((p x && !hole x c)=true):=fun z=>q2 (List.any_eq_true.mpr ⟨x,hx,z⟩)
        revert this
        cases p x <;> cases hole x c <;> simp
       rw [en_known cells k,← e5,← en_known cells k]
       exact h2.1
      ·have e5:ws.filter (fun x=>p x && !hole x c)=ws.filter p:=filter_same ws fun x hx=>by
        have:¬ ((p x && hole x c)=true):=fun z=>q1 (List.any_eq_true.mpr ⟨x,hx,z⟩)
        revert this
        cases p x <;> cases hole x c <;> simp
       rw [en_known cells k,← e5,← en_known cells k]
       exact h2.2
     have h3:=en_mono ws way cells k p hp
     have h3:(setl ws way p || cells.any fun c=>prop ws p c && (en ws way cells k (fun x=>p x && hole x c) && en ws way cells k (fun x=>p x && !hole x c)))=true:=h3
     rw [Bool.or_eq_true,setl_eq] at h3
     exact h3
def fp (cells:List Nat) (k:Nat) (p:Nat→Bool):Option Nat:=cells.find? fun c=>prop ws p c && (en ws way cells k (fun x=>p x && hole x c) && en ws way cells k (fun x=>p x && !hole x c))
theorem en_succ (cells:List Nat) (k:Nat) (p:Nat→Bool):en ws way cells (k + 1) p=(setl ws way p || (fp ws way cells k p).isSome):=by
 show (setl ws way p || cells.any _)=_
 unfold fp
 rw [any_find]
theorem fp_first {cells:List Nat} {k:Nat} (h:en ws way cells k (fun _=>true)=false):fp ws way cells k (fun _=>true)=firstProbe cells way k ws:=by
 unfold fp firstProbe
 have ef:ws.filter (fun _=>true)=ws:=List.filter_eq_self.mpr fun _ _=>rfl
 congr 1
 funext c
 have e1:en ws way cells k (fun x=>true && hole x c)=known cells way k (ws.filter fun x=>hole x c):=by
  rw [en_known]
  congr 1
 have e2:en ws way cells k (fun x=>true && !hole x c)=known cells way k (ws.filter fun x=>!hole x c):=by
  rw [en_known]
  congr 1
 rw [e1,e2]
 by_cases q:prop ws (fun _=>true) c=true
 ·rw [q,Bool.true_and]
 ·rw [Bool.eq_false_iff.mpr q,Bool.false_and]
  symm
  rw [Bool.eq_false_iff]
  intro z
  rw [Bool.and_eq_true] at z
  rw [en_known,ef] at h
  unfold prop at q
  rw [Bool.and_eq_true] at q
  by_cases q1:(ws.any fun x=>true && hole x c)=true
  ·have q2:¬ (ws.any fun x=>true && !hole x c)=true:=fun z=>q ⟨q1,z⟩
   have e5:ws.filter (fun x=>hole x c)=ws:=List.filter_eq_self.mpr fun x hx=>by
    have:¬ ((true && !hole x c)=true):=fun z=>q2 (List.any_eq_true.mpr ⟨x,hx,z⟩)
    revert this
    cases hole x c <;> simp
   rw [e5,h] at z
   cases z.1
  ·have e5:ws.filter (fun x=>!hole x c)=ws:=List.filter_eq_self.mpr fun x hx=>by
    have:¬ ((true && hole x c)=true):=fun z=>q1 (List.any_eq_true.mpr ⟨x,hx,z⟩)
    revert this
    cases hole x c <;> simp
   rw [e5,h] at z
   cases z.2
theorem split_snoc (c:Nat):∀ l:List Nat,splitCell ws (l ++ [c])=match splitCell ws l with
  |none=>some c
  |some d=>if worst ws c < worst ws d then some c else some d
 | []=>rfl
 |a::l=>by
  have ih:=split_snoc c l
  show (match splitCell ws (l ++ [c]) with | none=>some a | some d=>if worst ws d < worst ws a then some d else some a)=_
  rw [ih]
  show _=(match (match splitCell ws l with | none=>some a | some d=>if worst ws d < worst ws a then some d else some a) with | none=>some c | some d=>if worst ws c < worst ws d then some c else some d)
  cases splitCell ws l with
  |none=>rfl
  |some d=>
   dsimp only
   by_cases h1:worst ws c < worst ws d
   ·rw [if_pos h1]
    dsimp only
    by_cases h2:worst ws d < worst ws a
    ·rw [if_pos (show worst ws c < worst ws a by omega),if_pos h2]
     dsimp only
     rw [if_pos h1]
    ·rw [if_neg h2]
   ·rw [if_neg h1]
    dsimp only
    by_cases h2:worst ws d < worst ws a
    ·rw [if_pos h2]
     dsimp only
     rw [if_neg h1]
    ·rw [if_neg h2]
     dsimp only
     rw [if_neg (by omega)]
theorem worst_eq (c:Nat):worst ws c=max (ws.countP fun x=>hole x c) (ws.length - ws.countP fun x=>hole x c):=by
 unfold worst
 congr 1
 have:ws.countP (fun x=>hole x c) + ws.countP (fun x=>!hole x c)=ws.length:=by
  induction ws with
  |nil=>rfl
  |cons a l ih=>
   rw [List.countP_cons,List.countP_cons,List.length_cons]
   cases hole a c <;> simp <;> omega
 omega
end
end Rp
namespace Rp
open Vbexai
theorem tgt_congr {f:Form} {ok ok':Nat→Bool} (h:∀ c,c < f.w * f.h→ok c=ok' c):tgt f ok=tgt f ok':=by
 funext e
 unfold tgt
 cases q:toward f e.1.cell e.2 with
 |none=>rfl
 |some c=>
  dsimp only
  rw [h c (toward_in q)]
theorem widen_congr {f:Form} {ok ok':Nat→Bool} (h:∀ c,c < f.w * f.h→ok c=ok' c) (ring:List Walk) (seen:List Nat):widen f ok ring seen=widen f ok' ring seen:=by
 rw [widen_eq,widen_eq,tgt_congr h]
theorem search_congr {f:Form} {ok ok':Nat→Bool} (h:∀ c,c < f.w * f.h→ok c=ok' c) (goal:Nat):∀ (k:Nat) (ring:List Walk) (seen:List Nat),search f ok goal k ring seen=search f ok' goal k ring seen
 | 0,_,_=>rfl
 |k + 1,ring,seen=>by
  unfold search
  cases ring.find? fun u=>u.cell == goal with
  |some u=>rfl
  |none=>
   dsimp only
   rw [widen_congr h,search_congr h goal k]
theorem wayTo_congr {f:Form} {ok ok':Nat→Bool} (h:∀ c,c < f.w * f.h→ok c=ok' c) {a b:Nat} (ha:a < f.w * f.h):wayTo f ok a b=wayTo f ok' a b:=by
 unfold wayTo
 rw [h a ha,search_congr h]
theorem split_none {ws:List Nat}:∀ {l:List Nat},splitCell ws l=none→l=[]
 | [],_=>rfl
 |c::r,h=>by
  unfold splitCell at h
  split at h
  ·cases h
  ·split at h <;> cases h
theorem firm_count (l:List Nat) (n:Nat):n - ((List.range n).filter (hole (orW l))).length=(List.range n).countP fun d=>l.all fun x=>!hole x d:=by
 have e:∀ d,(l.all fun x=>!hole x d)=!hole (orW l) d:=fun d=>by
  rw [orW_hole,List.not_any_eq_all_not]
 have e2:((List.range n).countP fun d=>l.all fun x=>!hole x d)=(List.range n).countP fun d=>!hole (orW l) d:=by
  congr 1
  funext d
  exact e d
 rw [e2,← List.countP_eq_length_filter]
 have:∀ r:List Nat,r.countP (hole (orW l)) + r.countP (fun d=>!hole (orW l) d)=r.length:=fun r=>by
  induction r with
  |nil=>rfl
  |cons a r ih=>
   rw [List.countP_cons,List.countP_cons,List.length_cons]
   cases hole (orW l) a <;> simp <;> omega
 have:=this (List.range n)
 rw [List.length_range] at this
 omega
end Rp
namespace Rp
open PySem PySem.Spec PyProof.Rows L2
structure Blt (mg:Str→Option Value):Prop where
 range:mg "range"=none
 len:mg "len"=none
 list:mg "list"=none
 sorted:mg "sorted"=none
 enum:mg "enumerate"=none
 zip:mg "zip"=none
 max:mg "max"=none
 all:mg "all"=none
 any:mg "any"=none
abbrev ofs (ns:List Nat):List V:=ns.map fun (n:Nat)=>V.int (n:Int)
theorem ofs_len (ns:List Nat):(ofs ns).length=ns.length:=List.length_map _
theorem ofs_get {ns:List Nat} {i:Nat} {y:V} (h:(ofs ns)[i]?=some y):∃ n,ns[i]?=some n∧y=.int (n:Int):=by
 unfold ofs at h
 rw [List.getElem?_map] at h
 cases e:ns[i]? with
 |none=>rw [e] at h; cases h
 |some z=>rw [e] at h; exact ⟨z,rfl,(Option.some.inj h).symm⟩
theorem bitOr_nat (a b:Nat):Builtin.bitOr (a:Int) (b:Int)=((a ||| b:Nat):Int):=Bits.bitOr_pp (Int.natCast_nonneg _) (Int.natCast_nonneg _)
theorem pow_nat (n:Nat):(1:Int) * 2 ^ n=((2 ^ n:Nat):Int):=by
 rw [Int.one_mul,two_pow_cast]
theorem while_x {c:TT} {tb:TS} {D:Ends} {σ:L2.St} {H:Hp} (Pv:L2.St→Hp→Prop) (mu:L2.St→Hp→Nat) (h0:Pv σ H)
  (hs:∀ σ H,Pv σ H→c σ H fun b H1=>if b=true then ∃ N:L2.St→Hp→Prop,(∀ σ' H',N σ' H'→∃ m',m' < mu σ H∧(m'=mu σ' H'∧Pv σ' H'))∧tb { D with nx:=N,ct:=N,bk:=D.nx } σ H1 else D.nx σ H1):tWhile c tb D σ H:=
 ⟨fun m σ H=>m=mu σ H∧Pv σ H,⟨_,rfl,h0⟩,by rintro m σ H ⟨rfl,p⟩; exact hs σ H p⟩
def intAt (i:Nat) (σ:L2.St):Int:=match σ[i]? with
 |some (some (V.int n))=>n
 |_=>0
theorem o0 {g:Int→Int→V} {x y:V} {H:Hp} {Q:VK} {i j:Int} {v:V} (hx:x=.int i) (hy:y=.int j) (hv:g i j=v) (h:Q v H):rI0 g x y H Q:=⟨i,j,hx,hy,by rw [hv]; exact h⟩
theorem o1 {C:Int→Int→Prop} {g:Int→Int→V} {x y:V} {H:Hp} {Q:VK} {i j:Int} {v:V} (hx:x=.int i) (hy:y=.int j) (hc:C i j) (hv:g i j=v) (h:Q v H):rI C g x y H Q:=⟨i,j,hx,hy,hc,by rw [hv]; exact h⟩
theorem ix_listK {X:Cx} (K:PySem.W.Frag) (h:X.K=K):IxR X (rIxL K):=by subst h; exact ix_list
theorem pe_fldK {X:Cx} {e:Expr} {ta:TE} {f:Str} {pos:Pos} (K:PySem.W.Frag) (h:X.K=K) (he:PE X e ta) (hb:attributeBase e f X.env (eval e X.env)=eval e X.env):PE X (.Attribute e f pos) (tFld K ta f):=by subst h; exact pe_fld he hb
theorem pg_tupK {X:Cx} {es:List Expr} {k:Nat} {t:TGs} {n:Nat} {pos:Pos} (K:PySem.W.Frag) (hK:X.K=K) (hc:X.calm=true) (h:PGs X es t)
  (hn:(assignEach es X.env).length=n:=by rfl) (hst:(assignEach es X.env).findIdx? (·.1)=none:=by rfl):PG X (.Tuple es k pos) (gTup K n t):=by subst hK; exact pg_tup hc h hn hst
theorem ofs_int (l:List Nat):ofs l=(l.map fun (n:Nat)=>(n:Int)).map V.int:=by
 unfold ofs
 rw [List.map_map]; rfl
theorem _root_.L2.Same.up {H H':Hp} {p:Addr} {o:HO} (S:Same H H') (hp:H p=Option.none):Same H (upd H' p o):=fun b x e=>by
 rw [upd_ne (ne_of_none e hp)]; exact S b x e
theorem _root_.L2.Same.new {H H':Hp} {p:Addr} {o:HO} (S:Same H H') (hp:H' p=Option.none):Same H (upd H' p o):=S.up (S.free hp)
theorem for_it {J:It} {n:Nat} {g:TG} {tb:TS} {D:Ends} {σ:L2.St} {H:Hp} (Pv:Nat→L2.St→Hp→Prop) (h0:Pv 0 σ H) (hgo:∀ i σ H,i < n→Pv i σ H→J.go i H) (hst:∀ σ H,Pv n σ H→J.stop n H)
  (hs:∀ i σ H x H',i < n→Pv i σ H→J.yld i H x H'→g x σ H' fun σ2 H2=>tb { D with nx:=Pv (i + 1),ct:=Pv (i + 1),bk:=D.nx } σ2 H2) (hd:∀ σ H,Pv n σ H→D.nx σ H) :
  ∃ W:Nat→Nat→L2.St→Hp→Prop,(∃ m,W 0 m σ H)∧∀ i m σ H,W i m σ H→
   (J.stop i H∧D.nx σ H)∨(J.go i H∧∃ N:L2.St→Hp→Prop,(∀ σ' H',N σ' H'→∃ m',m' < m∧W (i + 1) m' σ' H')∧∀ x H',J.yld i H x H'→g x σ H' fun σ2 H2=>tb { D with nx:=N,ct:=N,bk:=D.nx } σ2 H2):=by
 refine ⟨fun i m σ H=>m=n - i∧i≤n∧Pv i σ H,⟨n,by simp,Nat.zero_le _,h0⟩,?_⟩
 rintro i m σ H ⟨rfl,hi,p⟩
 by_cases hlt:i < n
 ·exact .inr ⟨hgo i σ H hlt p,Pv (i + 1),fun σ' H' p'=>⟨n - (i + 1),by omega,rfl,hlt,p'⟩,fun x H' y=>hs i σ H x H' hlt p y⟩
 ·have e:i=n:=by omega
  subst e
  exact .inl ⟨hst σ H p,hd σ H p⟩
theorem lc_it {J:It} {n:Nat} {g:TG} {tt:TT} {te:TE} {vs:List Nat} {σ:L2.St} {H1:Hp} {D:Addr} {Qd:Hp→Prop} (Pv:Nat→Hp→Prop) (h0:Pv 0 (upd H1 D (.lst []))) (hgo:∀ i H,i < n→Pv i H→J.go i H) (hst:∀ H,Pv n H→J.stop n H)
  (hs:∀ i H x H',i < n→Pv i H→J.yld i H x H'→g x (wipe σ vs) H' fun σ2 H2=>wipe σ2 vs=wipe σ vs∧tt σ2 H2 fun b H3=>
   if b=true then te σ2 H3 fun y H4=>∃ acc,H4 D=some (.lst acc)∧acc.length < sizeLine∧Pv (i + 1) (upd H4 D (.lst (acc ++ [y]))) else Pv (i + 1) H3) (hd:∀ H,Pv n H→Qd H) :
  ∃ W:Nat→Nat→Hp→Prop,(∃ m,W 0 m (upd H1 D (.lst [])))∧∀ i m H,W i m H→
   (J.stop i H∧Qd H)∨(J.go i H∧∃ Nx:Hp→Prop,(∀ H',Nx H'→∃ m',m' < m∧W (i + 1) m' H')∧∀ x H',J.yld i H x H'→g x (wipe σ vs) H' fun σ2 H2=>wipe σ2 vs=wipe σ vs∧tt σ2 H2 fun b H3=>
    if b=true then te σ2 H3 fun y H4=>∃ acc,H4 D=some (.lst acc)∧acc.length < sizeLine∧Nx (upd H4 D (.lst (acc ++ [y]))) else Nx H3):=by
 refine ⟨fun i m H=>m=n - i∧i≤n∧Pv i H,⟨n,by simp,Nat.zero_le _,h0⟩,?_⟩
 rintro i m H ⟨rfl,hi,p⟩
 by_cases hlt:i < n
 ·exact .inr ⟨hgo i H hlt p,Pv (i + 1),fun H' p'=>⟨n - (i + 1),by omega,rfl,hlt,p'⟩,fun x H' y=>hs i H x H' hlt p y⟩
 ·have e:i=n:=by omega
  subst e
  exact .inl ⟨hst H p,hd H p⟩
def tFrz (t:TE):TE:=fun σ H Q=>t σ H fun v H1=>∃ d u,H1 d=some u∧Mut (some u)∧∀ od,Q v (upd H1 d (.frz od u))
theorem pe_frz {X:Cx} {e:Expr} {t:TE} (h:PE X e t):PE X e (tFrz t):=by
 intro pins s σ H Q I hw
 refine thn (h pins s σ H _ I hw) fun v s1 ⟨x,H1,I1,r,d,u,hd,mu,q⟩=>?_
 obtain ⟨od,I2⟩:=I1.lock hd mu
 exact ⟨x,_,I2,r,q od⟩
theorem nsize {n:Nat} (h:n≤1000000):n < sizeLine:=Nat.lt_of_le_of_lt h (by decide)
theorem take_snoc {α:Type} {l:List α} {i:Nat} {x:α} (h:l[i]?=some x):l.take (i + 1)=l.take i ++ [x]:=by
 rw [List.take_add_one,h]; rfl
theorem bitAnd_nat (a b:Nat):Builtin.bitAnd (a:Int) (b:Int)=((a &&& b:Nat):Int):=by
 unfold Builtin.bitAnd
 rw [decide_eq_true (Int.natCast_nonneg a),decide_eq_true (Int.natCast_nonneg b)]
 rfl
theorem bitXor_nat (a b:Nat):Builtin.bitXor (a:Int) (b:Int)=((a ^^^ b:Nat):Int):=Bits.bitXor_pp (Int.natCast_nonneg _) (Int.natCast_nonneg _)
theorem shr_nat (x c:Nat):(x:Int) / 2 ^ c=((x / 2 ^ c:Nat):Int):=by
 rw [two_pow_cast,← Int.natCast_ediv]
theorem bit_nat (x c:Nat):Builtin.bitAnd ((x:Int) / 2 ^ c) 1=((x / 2 ^ c % 2:Nat):Int):=by
 rw [bitAnd_m1,two_pow_cast,← Int.natCast_ediv]
 exact (Int.natCast_emod _ _).symm
theorem dec_int (i j:Int):decide (V.int i=V.int j)=decide (i=j):=by
 by_cases q:i=j
 ·rw [q]; simp
 ·rw [decide_eq_false q,decide_eq_false (fun z=>q (V.int.inj z))]
end Rp
namespace Rp
open PySem PySem.Spec PyProof.Rows L2
local macro_rules | `(tactic| walk_at "rd")=>`(tactic| (repeat (first | (refine ⟨_,rfl,?_⟩) | (refine ⟨_,_,rfl,rfl,?_⟩))))
section
variable {P:Program} {w:World} {K:PySem.W.Frag} {mg:Str→Option Value} {base:Heap}
abbrev sCrev:Stmt:=top 1
def spCrev:Sp:=fun vs H Q _=>∃ a b n:Nat,vs=[.int a,.int b,.int n]∧(a≤1000∧b≤1000∧n≤100)∧Q (.int (row a b n:Nat)) H
theorem scCrev:FnScope ["start","step","length","number","k"] ["start","step","length"] (defScope sCrev):=⟨rfl,rfl,rfl,by decide +kernel,rfl,by decide +kernel,by decide +kernel⟩
theorem ok_crev {f:Addr} {fd:FuncData} (F:Fun K "crevasse" "crevasse" sCrev f fd) (B:Blt mg):FnOk P w K mg base CX0 1 f fd ["start","step","length"] spCrev:=by
 refine F.ok scCrev (fun vs H Q E h=>?_) (fun cdv A outer s H vs Q E hr h=>?_)
 ·obtain ⟨a,b,n,rfl,_⟩:=h
  rfl
 ·obtain ⟨a,b,n,rfl,⟨ha,hb,hn⟩,k⟩:=h
  have nd:=scCrev.nd
  refine ⟨_,pss_cons (ps_set (i:=3) nd rfl (Or.inl rfl) pe_int)
   (pss_cons (ps_for PassesOwn.never rfl (pi_range1 rfl B.range (pa_cons (pv 2) pa_nil)) (pg_name (i:=4) nd rfl (Or.inl rfl))
    (pss_one (ps_set (i:=3) nd rfl (Or.inl rfl) (pe_op op_or (pv 3) (pe_op op_shl pe_int (pe_op op_add (pv 0) (pe_op op_mul (pv 4) (pv 1))))))))
   (pss_one (ps_ret (pv 3)))),?_⟩
  refine ⟨_,rfl,n,rfl,by omega,by omega,?_⟩
  rw [Int.toNat_natCast]
  refine for_range (n:=n) (fun i σ H'=>∃ v4:Option V,σ=[some (.int a),some (.int b),some (.int n),some (.int (row a b i:Nat)),v4]∧H'=H) ⟨none,rfl,rfl⟩ ?_ ?_
  ·rintro i σ H' hi ⟨v4,rfl,rfl⟩
   have e0:(0:Int) + (i:Int)=(i:Int):=by omega
   rw [e0]
   have hib:i * b≤100 * 1000:=Nat.mul_le_mul (by omega) hb
   have e1:(a:Int) + (i:Int) * (b:Int)=((a + i * b:Nat):Int):=by rw [Int.natCast_add,Int.natCast_mul]
   walk_at "rd"
   refine ⟨.inl (by omega),?_⟩
   walk_at "rd"
   rw [e1]
   refine ⟨⟨by omega,by omega,by decide⟩,?_⟩
   walk_at "rd"
   refine ⟨some (.int i),?_,rfl⟩
   show [some (V.int a),some (V.int b),some (V.int n),some (V.int (Builtin.bitOr (row a b i:Nat) (1 * 2 ^ ((a + i * b:Nat):Int).toNat))),some (V.int i)]=_
   rw [Int.toNat_natCast,pow_nat,bitOr_nat,← row_succ]
  ·rintro σ H' ⟨v4,rfl,rfl⟩
   exact ⟨_,rfl,k⟩
abbrev tr (ks:List Nat):List (Key × V):=ks.map fun (n:Nat)=>(Sum.inl (n:Int),V.bl true)
theorem tr_keys (ks:List Nat):(tr ks).map (fun p=>kV p.1)=ofs ks:=by
 unfold tr ofs
 rw [List.map_map]; rfl
theorem tr_val (ks:List Nat) (n:Nat):(valV (tr ks) (Sum.inl (n:Int))).isSome=decide (n ∈ ks):=by
 rw [← valV_any]
 unfold tr
 rw [List.any_map]
 induction ks with
 |nil=>rfl
 |cons a l ih=>
  rw [List.any_cons,ih]
  by_cases e:a=n
  ·subst e; simp
  ·have e':¬ n=a:=fun q=>e q.symm
   have e2:¬ (a:Int)=(n:Int):=by omega
   simp [e',e2]
theorem tr_put (ks:List Nat) (n:Nat):putK (tr ks) (Sum.inl (n:Int)) (V.bl true)=tr (if n ∈ ks then ks else ks ++ [n]):=by
 by_cases h:n ∈ ks
 ·rw [if_pos h]
  unfold putK
  rw [valV_any,tr_val,if_pos (by simpa using h)]
  have:(fun kv:Key × V=>if kv.1=Sum.inl (n:Int) then (kv.1,V.bl true) else kv) ∘ (fun m:Nat=>((Sum.inl (m:Int):Key),V.bl true))=fun m:Nat=>((Sum.inl (m:Int):Key),V.bl true):=by
   funext m
   show (if (Sum.inl (m:Int):Key)=Sum.inl (n:Int) then ((Sum.inl (m:Int):Key),V.bl true) else _)=_
   split <;> rfl
  unfold tr
  rw [List.map_map,this]
 ·rw [if_neg h,putK_new]
  ·unfold tr; rw [List.map_append]; rfl
  ·have q:=tr_val ks n
   rw [decide_eq_false h] at q
   cases e:valV (tr ks) (Sum.inl (n:Int)) with
   |none=>rfl
   |some v=>rw [e] at q; cases q
structure Keys (H:Hp) (d:Addr) (Pd:Nat→Prop) (N:Nat):Prop where
 ex:∃ ks:List Nat,H d=some (.dK (tr ks))∧ks.Nodup∧(∀ n,n ∈ ks↔Pd n)∧ks.length≤N
theorem Keys.iff {H:Hp} {d:Addr} {p q:Nat→Prop} {N M:Nat} (h:Keys H d p N) (e:∀ n,p n↔q n) (hN:N≤M):Keys H d q M:=by
 obtain ⟨ks,h1,h2,h3,h4⟩:=h.ex
 exact ⟨ks,h1,h2,fun n=>(h3 n).trans (e n),Nat.le_trans h4 hN⟩
theorem Keys.put {H:Hp} {d:Addr} {p:Nat→Prop} {N:Nat} (h:Keys H d p N) (hN:N < sizeLine) (v:Nat) :
  ∃ H',DPut H d (.int (v:Int)) (.bl true) H'∧Keys H' d (fun n=>p n∨n=v) (N + 1)∧∀ b,b ≠ d→H' b=H b:=by
 obtain ⟨ks,h1,h2,h3,h4⟩:=h.ex
 refine ⟨_,DPut.k (k:=Sum.inl (v:Int)) h1 (by unfold tr; rw [List.length_map]; omega),⟨if v ∈ ks then ks else ks ++ [v],?_,?_,?_,?_⟩,fun b hb=>upd_ne hb⟩
 ·rw [upd_same,tr_put]
 ·split
  ·exact h2
  ·rename_i hv; exact nd_snoc h2 hv
 ·intro n
  split
  ·rename_i hv
   rw [h3]
   constructor
   ·exact .inl
   ·rintro (q | rfl)
    ·exact q
    ·exact (h3 _).mp hv
  ·rw [List.mem_append,h3,List.mem_singleton]
 ·split
  ·omega
  ·rw [List.length_append,List.length_singleton]; omega
abbrev sCrevs:Stmt:=top 2
def spCrevs:Sp:=fun vs H Q _=>∃ f:Vbexai.Form,FormOk f∧vs=[.int f.w,.int f.h,.int f.least,.int f.most]∧
 ∀ (H':Hp) (p:Addr) (ks:List Nat),Same H H'→H p=none→H' p=some (.lst (ofs ks))→(∀ n,n ∈ ks↔n ∈ ones f)→ks.length≤288→Q (.ref p) H'
theorem scCrevs:FnScope ["width","height","least","most","seen","length","y","x"] ["width","height","least","most"] (defScope sCrevs):=⟨rfl,rfl,rfl,by decide +kernel,rfl,by decide +kernel,by decide +kernel⟩
theorem ok_crevs {f f1:Addr} {fd fd1:FuncData} (F:Fun K "crevasses" "crevasses" sCrevs f fd) (B:Blt mg) (F1:Fun K "crevasse" "crevasse" sCrev f1 fd1) (b1:Binds K fd1 ["start","step","length"] []) (g1:mg "crevasse"=some (.ref f1)) :
  FnOk P w K mg base CX0 2 f fd ["width","height","least","most"] spCrevs:=by
 have G1:FnOk P w K mg base CX0 1 f1 fd1 ["start","step","length"] spCrev:=ok_crev F1 B
 refine F.ok scCrevs (fun vs H Q E h=>?_) (fun cdv A outer s H vs Q E hr h=>?_)
 ·obtain ⟨fo,_,rfl,_⟩:=h
  rfl
 ·obtain ⟨fo,fok,rfl,k⟩:=h
  have nd:=scCrevs.nd
  have hu:=hu_of hr
  refine ⟨_,pss_cons (ps_set (i:=4) nd rfl (Or.inl rfl) pe_dnewK)
   (pss_cons (ps_for PassesOwn.never rfl (pi_range2 rfl B.range (pa_cons (pv 2) (pa_cons (pe_op op_add (pv 3) pe_int) pa_nil))) (pg_name (i:=5) nd rfl (Or.inl rfl))
    (pss_cons (ps_for PassesOwn.never rfl (pi_range1 rfl B.range (pa_cons (pv 1) pa_nil)) (pg_name (i:=6) nd rfl (Or.inl rfl))
     (pss_one (ps_for PassesOwn.never rfl (pi_range1 rfl B.range (pa_cons (pe_op op_add (pe_op op_sub (pv 0) (pv 5)) pe_int) pa_nil)) (pg_name (i:=7) nd rfl (Or.inl rfl))
      (pss_one (ps_dput hu (pv 4) (pe_call G1 hr rfl g1 F1.kp b1 .nil pass0 (pa_cons (pe_op op_add (pe_op op_mul (pv 6) (pv 0)) (pv 7)) (pa_cons pe_int (pa_cons (pv 5) pa_nil)))) pe_bl rfl)))))
    (pss_one (ps_for PassesOwn.never rfl (pi_range1 rfl B.range (pa_cons (pe_op op_add (pe_op op_sub (pv 1) (pv 5)) pe_int) pa_nil)) (pg_name (i:=6) nd rfl (Or.inl rfl))
     (pss_one (ps_for PassesOwn.never rfl (pi_range1 rfl B.range (pa_cons (pv 0) pa_nil)) (pg_name (i:=7) nd rfl (Or.inl rfl))
      (pss_one (ps_dput hu (pv 4) (pe_call G1 hr rfl g1 F1.kp b1 .nil pass0 (pa_cons (pe_op op_add (pe_op op_mul (pv 6) (pv 0)) (pv 7)) (pa_cons (pv 0) (pa_cons (pv 5) pa_nil)))) pe_bl rfl))))))))
   (pss_one (ps_ret (pe_callTy (call_list_dict rfl) rfl B.list (by decide +kernel) (pa_cons (pv 4) pa_nil))))),?_⟩
  intro d hd
  have hw:=fok.w6
  have hh:=fok.h6
  have hl:=fok.l1
  have hm:=fok.m4
  have hlm:=fok.lm
  have K0:Keys (upd H d (.dK [])) d (fun n=>∃ k,k < 0∧Val fo (fo.least + k) n) 0:=⟨[],upd_same,List.nodup_nil,fun n=>by simp,Nat.le_refl _⟩
  have S0:Same H (upd H d (.dK [])):=fun b o e=>by rw [upd_ne (ne_of_none e hd)]; exact e
  refine ⟨_,rfl,_,rfl,_,_,rfl,rfl,_,_,rfl,⟨by omega,by omega,by omega,by omega⟩,?_⟩
  have e0:((fo.most:Int) + 1 - (fo.least:Int)).toNat=fo.most + 1 - fo.least:=by omega
  rw [e0]
  refine for_range (n:=fo.most + 1 - fo.least) (fun i σ H'=>∃ v5 v6 v7:Option V,σ=[some (.int fo.w),some (.int fo.h),some (.int fo.least),some (.int fo.most),some (.ref d),v5,v6,v7]∧Same H H'∧Keys H' d (fun n=>∃ k,k < i∧Val fo (fo.least + k) n) (72 * i))
   ⟨none,none,none,rfl,S0,K0⟩ ?_ ?_
  ·rintro i σ H1 hi ⟨v5,v6,v7,rfl,S1,K1⟩
   have e1:(fo.least:Int) + (i:Int)=((fo.least + i:Nat):Int):=by omega
   rw [e1]
   generalize hL:fo.least + i=L
   have hL4:L≤4:=by omega
   have hL1:1≤L:=by omega
   refine ⟨_,rfl,_,rfl,by omega,by omega,?_⟩
   rw [Int.toNat_natCast]
   refine for_range (n:=fo.h) (fun y σ H'=>∃ v6 v7:Option V,σ=[some (.int fo.w),some (.int fo.h),some (.int fo.least),some (.int fo.most),some (.ref d),some (.int (L:Nat)),v6,v7]∧Same H H'∧
    Keys H' d (fun n=>(∃ k,k < i∧Val fo (fo.least + k) n)∨∃ y',y' < y∧∃ x,x < fo.w + 1 - L∧n=row (y' * fo.w + x) 1 L) (72 * i + 6 * y))
    ⟨v6,v7,rfl,S1,K1.iff (fun n=>by simp) (by omega)⟩ ?_ ?_
   ·rintro y σ H2 hy ⟨v6,v7,rfl,S2,K2⟩
    have ey:(0:Int) + (y:Int)=(y:Int):=by omega
    rw [ey]
    refine ⟨_,rfl,_,rfl,_,_,rfl,rfl,_,_,rfl,rfl,_,rfl,by omega,by omega,?_⟩
    have e2:((fo.w:Int) - ((L:Nat):Int) + 1).toNat=fo.w + 1 - L:=by omega
    rw [e2]
    refine for_range (n:=fo.w + 1 - L) (fun x σ H'=>∃ v7:Option V,σ=[some (.int fo.w),some (.int fo.h),some (.int fo.least),some (.int fo.most),some (.ref d),some (.int (L:Nat)),some (.int (y:Nat)),v7]∧Same H H'∧
     Keys H' d (fun n=>((∃ k,k < i∧Val fo (fo.least + k) n)∨∃ y',y' < y∧∃ x,x < fo.w + 1 - L∧n=row (y' * fo.w + x) 1 L)∨∃ x',x' < x∧n=row (y * fo.w + x') 1 L) (72 * i + 6 * y + x))
     ⟨v7,rfl,S2,K2.iff (fun n=>by simp) (by omega)⟩ ?_ ?_
    ·rintro x σ H3 hx ⟨v7,rfl,S3,K3⟩
     have ex:(0:Int) + (x:Int)=(x:Int):=by omega
     rw [ex]
     have hyw:y * fo.w≤6 * 6:=Nat.mul_le_mul (by omega) hw
     have e3:(y:Int) * (fo.w:Int) + (x:Int)=((y * fo.w + x:Nat):Int):=by rw [Int.natCast_add,Int.natCast_mul]
     refine ⟨_,rfl,_,rfl,_,rfl,_,_,rfl,rfl,.inl (by omega),_,rfl,_,_,rfl,rfl,_,rfl,y * fo.w + x,1,L,(by rw [← e3]; rfl),⟨by omega,by omega,by omega⟩,?_⟩
     obtain ⟨H4,hp,K4,st⟩:=K3.put (nsize (by omega)) (row (y * fo.w + x) 1 L)
     refine ⟨d,H4,rfl,hp,_,rfl,fun b o e=>?_,K4.iff (fun n=>?_) (by omega)⟩
     ·rw [st b (ne_of_none e hd)]; exact S3 b o e
     ·constructor
      ·rintro ((q | ⟨x',h1,h2⟩) | q)
       ·exact .inl q
       ·exact .inr ⟨x',by omega,h2⟩
       ·exact .inr ⟨x,by omega,q⟩
      ·rintro (q | ⟨x',h1,h2⟩)
       ·exact .inl (.inl q)
       ·by_cases e:x'=x
        ·subst e; exact .inr h2
        ·exact .inl (.inr ⟨x',by omega,h2⟩)
    ·rintro σ H3 ⟨v7,rfl,S3,K3⟩
     refine ⟨_,v7,rfl,S3,K3.iff (fun n=>?_) (by omega)⟩
     constructor
     ·rintro ((q | ⟨y',h1,h2⟩) | q)
      ·exact .inl q
      ·exact .inr ⟨y',by omega,h2⟩
      ·exact .inr ⟨y,by omega,q⟩
     ·rintro (q | ⟨y',h1,h2⟩)
      ·exact .inl (.inl q)
      ·by_cases e:y'=y
       ·subst e; exact .inr h2
       ·exact .inl (.inr ⟨y',by omega,h2⟩)
   ·rintro σ H2 ⟨v6,v7,rfl,S2,K2⟩
    refine ⟨_,rfl,_,rfl,_,_,rfl,rfl,_,_,rfl,rfl,_,rfl,by omega,by omega,?_⟩
    have e2:((fo.h:Int) - ((L:Nat):Int) + 1).toNat=fo.h + 1 - L:=by omega
    rw [e2]
    refine for_range (n:=fo.h + 1 - L) (fun y σ H'=>∃ v6 v7:Option V,σ=[some (.int fo.w),some (.int fo.h),some (.int fo.least),some (.int fo.most),some (.ref d),some (.int (L:Nat)),v6,v7]∧Same H H'∧
     Keys H' d (fun n=>((∃ k,k < i∧Val fo (fo.least + k) n)∨∃ y',y' < fo.h∧∃ x,x < fo.w + 1 - L∧n=row (y' * fo.w + x) 1 L)∨∃ y',y' < y∧∃ x,x < fo.w∧n=row (y' * fo.w + x) fo.w L) (72 * i + 36 + 6 * y))
     ⟨v6,v7,rfl,S2,K2.iff (fun n=>by simp) (by omega)⟩ ?_ ?_
    ·rintro y σ H3 hy ⟨v6,v7,rfl,S3,K3⟩
     have ey:(0:Int) + (y:Int)=(y:Int):=by omega
     rw [ey]
     refine ⟨_,rfl,_,rfl,by omega,by omega,?_⟩
     rw [Int.toNat_natCast]
     refine for_range (n:=fo.w) (fun x σ H'=>∃ v7:Option V,σ=[some (.int fo.w),some (.int fo.h),some (.int fo.least),some (.int fo.most),some (.ref d),some (.int (L:Nat)),some (.int (y:Nat)),v7]∧Same H H'∧
      Keys H' d (fun n=>(((∃ k,k < i∧Val fo (fo.least + k) n)∨∃ y',y' < fo.h∧∃ x,x < fo.w + 1 - L∧n=row (y' * fo.w + x) 1 L)∨∃ y',y' < y∧∃ x,x < fo.w∧n=row (y' * fo.w + x) fo.w L)∨∃ x',x' < x∧n=row (y * fo.w + x') fo.w L) (72 * i + 36 + 6 * y + x))
      ⟨v7,rfl,S3,K3.iff (fun n=>by simp) (by omega)⟩ ?_ ?_
     ·rintro x σ H4 hx ⟨v7,rfl,S4,K4⟩
      have ex:(0:Int) + (x:Int)=(x:Int):=by omega
      rw [ex]
      have hyw:y * fo.w≤6 * 6:=Nat.mul_le_mul (by omega) hw
      have e3:(y:Int) * (fo.w:Int) + (x:Int)=((y * fo.w + x:Nat):Int):=by rw [Int.natCast_add,Int.natCast_mul]
      refine ⟨_,rfl,_,rfl,_,rfl,_,_,rfl,rfl,.inl (by omega),_,rfl,_,_,rfl,rfl,_,rfl,_,rfl,y * fo.w + x,fo.w,L,(by rw [← e3]; rfl),⟨by omega,by omega,by omega⟩,?_⟩
      obtain ⟨H5,hp,K5,st⟩:=K4.put (nsize (by omega)) (row (y * fo.w + x) fo.w L)
      refine ⟨d,H5,rfl,hp,_,rfl,fun b o e=>?_,K5.iff (fun n=>?_) (by omega)⟩
      ·rw [st b (ne_of_none e hd)]; exact S4 b o e
      ·constructor
       ·rintro ((q | ⟨x',h1,h2⟩) | q)
        ·exact .inl q
        ·exact .inr ⟨x',by omega,h2⟩
        ·exact .inr ⟨x,by omega,q⟩
       ·rintro (q | ⟨x',h1,h2⟩)
        ·exact .inl (.inl q)
        ·by_cases e:x'=x
         ·subst e; exact .inr h2
         ·exact .inl (.inr ⟨x',by omega,h2⟩)
     ·rintro σ H4 ⟨v7,rfl,S4,K4⟩
      refine ⟨_,v7,rfl,S4,K4.iff (fun n=>?_) (by omega)⟩
      constructor
      ·rintro ((q | ⟨y',h1,h2⟩) | q)
       ·exact .inl q
       ·exact .inr ⟨y',by omega,h2⟩
       ·exact .inr ⟨y,by omega,q⟩
      ·rintro (q | ⟨y',h1,h2⟩)
       ·exact .inl (.inl q)
       ·by_cases e:y'=y
        ·subst e; exact .inr h2
        ·exact .inl (.inr ⟨y',by omega,h2⟩)
    ·rintro σ H3 ⟨v6,v7,rfl,S3,K3⟩
     refine ⟨_,v6,v7,rfl,S3,K3.iff (fun n=>?_) (by omega)⟩
     constructor
     ·rintro ((⟨k,h1,h2⟩ | q) | q)
      ·exact ⟨k,by omega,h2⟩
      ·exact ⟨i,by omega,by rw [hL]; exact .inl q⟩
      ·exact ⟨i,by omega,by rw [hL]; exact .inr q⟩
     ·rintro ⟨k,h1,h2⟩
      by_cases e:k=i
      ·subst e
       rw [hL] at h2
       rcases h2 with q | q
       ·exact .inl (.inr q)
       ·exact .inr q
      ·exact .inl (.inl ⟨k,by omega,h2⟩)
  ·rintro σ H1 ⟨v5,v6,v7,rfl,S1,K1⟩
   obtain ⟨ks,h1,h2,h3,h4⟩:=K1.ex
   refine ⟨_,rfl,d,_,rfl,h1,fun l hl'=>?_⟩
   rw [tr_keys]
   refine k _ l ks (fun b o e=>?_) (S1.free hl') upd_same (fun n=>?_) (by omega)
   ·rw [upd_ne (ne_of_none (S1 b o e) hl')]; exact S1 b o e
   ·rw [h3,ones_iff fo n hl]
end
end Rp
namespace Rp
open PySem PySem.Spec PyProof.Rows L2
section
variable {P:Program} {w:World} {K:PySem.W.Frag} {mg:Str→Option Value} {base:Heap}
abbrev sHid:Stmt:=top 3
def spHid:Sp:=fun vs H Q _=>∃ f:Vbexai.Form,FormOk f∧vs=[.int f.w,.int f.h,.int f.least,.int f.most,.int f.many]∧
 ∀ (H':Hp) (p:Addr),Same H H'→H p=none→H' p=some (.lst (ofs (Vbexai.worlds f)))→(Vbexai.worlds f).length≤100000→Q (.ref p) H'
theorem scHid:FnScope ["width","height","least","most","many","single","seen","more","number","added"] ["width","height","least","most","many"] (defScope sHid):=⟨rfl,rfl,rfl,by decide +kernel,rfl,by decide +kernel,by decide +kernel⟩
def cap:Nat→Nat
 | 0=>1
 |k + 1=>cap k + cap k * 288
theorem cap_1 (i:Nat) (hi:i < 2):cap i≤289:=by
 have c0:cap 0=1:=rfl
 have c1:cap 1=cap 0 + cap 0 * 288:=rfl
 have:i=0∨i=1:=by omega
 rcases this with rfl | rfl <;> omega
theorem cap_2 (i:Nat) (hi:i≤2):cap i≤83521:=by
 have c0:cap 0=1:=rfl
 have c1:cap 1=cap 0 + cap 0 * 288:=rfl
 have c2:cap 2=cap 1 + cap 1 * 288:=rfl
 have:i=0∨i=1∨i=2:=by omega
 rcases this with rfl | rfl | rfl <;> omega
theorem sorted_nat {ns':List Int} {ks:List Nat} (hp:ns'.Perm (ks.map fun (n:Nat)=>(n:Int))) (hs:ns'.Pairwise (·≤·)) (hn:ks.Nodup):∃ ms:List Nat,ns'=ms.map (fun (n:Nat)=>(n:Int))∧ms.Perm ks∧ms.Pairwise (· < ·):=by
 have nn:∀ x ∈ ns',0≤x:=fun x hx=>by
  have:=hp.mem_iff.mp hx
  obtain ⟨n,_,rfl⟩:=List.mem_map.mp this
  exact Int.natCast_nonneg _
 have e:ns'=(ns'.map Int.toNat).map (fun (n:Nat)=>(n:Int)):=by
  rw [List.map_map]
  have:∀ l:List Int,(∀ x ∈ l,0≤x)→l=l.map ((fun (n:Nat)=>(n:Int)) ∘ Int.toNat):=by
   intro l
   induction l with
   |nil=>intro _; rfl
   |cons a l ih=>
    intro h
    have h1:=h a (by simp)
    rw [List.map_cons,← ih (fun x hx=>h x (List.mem_cons_of_mem _ hx))]
    show _=((a.toNat:Nat):Int)::l
    rw [Int.toNat_of_nonneg h1]
  exact this _ nn
 have p2:(ns'.map Int.toNat).Perm ks:=by
  have:=hp.map Int.toNat
  rw [List.map_map] at this
  have e2:ks.map (Int.toNat ∘ fun (n:Nat)=>(n:Int))=ks:=by
   have:(Int.toNat ∘ fun (n:Nat)=>(n:Int))=id:=by funext n; exact Int.toNat_natCast n
   rw [this,List.map_id]
  rw [e2] at this
  exact this
 refine ⟨ns'.map Int.toNat,e,p2,?_⟩
 have nd:(ns'.map Int.toNat).Nodup:=p2.nodup_iff.mpr hn
 have h1:(ns'.map Int.toNat).Pairwise (·≤·):=List.pairwise_map.mpr (hs.imp fun {a b} h=>by omega)
 exact (List.Pairwise.and h1 nd).imp fun {a b} ⟨h2,h3⟩=>Nat.lt_of_le_of_ne h2 h3
theorem ok_hid {f f1 f2:Addr} {fd fd1 fd2:FuncData} (F:Fun K "hidden_fields" "hidden_fields" sHid f fd) (B:Blt mg) (G2:FnOk P w K mg base CX0 2 f2 fd2 ["width","height","least","most"] spCrevs) (k2:PySem.W.keepIn K (.ref f2)=true)
  (b2:Binds K fd2 ["width","height","least","most"] []) (g2:mg "crevasses"=some (.ref f2)) :
  FnOk P w K mg base CX0 3 f fd ["width","height","least","most","many"] spHid:=by
 refine F.ok scHid (fun vs H Q E h=>?_) (fun cdv A outer s H vs Q E hr h=>?_)
 ·obtain ⟨fo,_,rfl,_⟩:=h
  rfl
 ·obtain ⟨fo,fok,rfl,k⟩:=h
  have nd:=scHid.nd
  have hu:=hu_of hr
  refine ⟨_,pss_cons (ps_set (i:=5) nd rfl (Or.inl rfl) (pe_call G2 hr rfl g2 k2 b2 .nil pass0 (pa_cons (pv 0) (pa_cons (pv 1) (pa_cons (pv 2) (pa_cons (pv 3) pa_nil))))))
   (pss_cons (ps_set (i:=6) nd rfl (Or.inl rfl) (pe_disp (pps_cons pe_int pe_bl pps_nil) rfl rfl (by simp) (by decide)))
   (pss_cons (ps_for PassesOwn.never rfl (pi_range1 rfl B.range (pa_cons (pv 4) pa_nil)) (pg_name (i:=7) nd rfl (Or.inl rfl))
    (pss_one (ps_for PassesOwn.never rfl (pi_list (pe_callTy (call_list_dict rfl) rfl B.list (by decide +kernel) (pa_cons (pv 6) pa_nil))) (pg_name (i:=8) nd rfl (Or.inl rfl))
     (pss_one (ps_for PassesOwn.never rfl (pi_list (pv 5)) (pg_name (i:=9) nd rfl (Or.inl rfl))
      (pss_one (ps_dput hu (pv 6) (pe_op op_or (pv 8) (pv 9)) pe_bl rfl)))))))
   (pss_one (ps_ret (pe_callB (cr_sortedD rfl) rfl B.sorted (by decide +kernel) (pa_cons (pv 6) pa_nil)))))),?_⟩
  have hy:=fok.y2
  refine ⟨_,rfl,_,rfl,_,rfl,_,rfl,fo,fok,rfl,fun H1 p ks S1 np hp hks hlen=>?_⟩
  intro d hd
  have npd:p ≠ d:=ne_of_none hp hd
  refine ⟨upd_same,[(Sum.inl 0,.bl true)],rfl,(by decide),?_⟩
  rw [upd_upd]
  have Sd:Same H1 (upd H1 d (.dK (tr [0]))):=fun b o e=>by rw [upd_ne (ne_of_none e hd)]; exact e
  have K0:Keys (upd H1 d (.dK (tr [0]))) d (fun n=>n ∈ Vbexai.worldsOf fo 0) (cap 0):=⟨[0],upd_same,by simp,fun n=>by simp [Vbexai.worldsOf],by decide⟩
  refine ⟨_,rfl,_,rfl,by omega,by omega,?_⟩
  rw [Int.toNat_natCast]
  have capb:=cap_2
  have capb1:=cap_1
  refine for_range (n:=fo.many) (fun i σ H'=>∃ v7 v8 v9:Option V,σ=[some (.int fo.w),some (.int fo.h),some (.int fo.least),some (.int fo.most),some (.int fo.many),some (.ref p),some (.ref d),v7,v8,v9]∧Same H1 H'∧Keys H' d (fun n=>n ∈ Vbexai.worldsOf fo i) (cap i))
   ⟨none,none,none,rfl,Sd,K0⟩ ?_ ?_
  ·rintro i σ H2 hi ⟨v7,v8,v9,rfl,S2,K2⟩
   obtain ⟨ms,e1,e2,e3,e4⟩:=K2.ex
   refine ⟨_,rfl,d,_,rfl,e1,fun l hl=>?_⟩
   rw [tr_keys]
   have ndl:d ≠ l:=ne_of_none e1 hl
   have npl:p ≠ l:=ne_of_none (S2 _ _ hp) hl
   refine ⟨l,rfl,⟨_,SqL.of upd_same⟩,for_list (xs:=ofs ms) (fun j σ H'=>∃ v8 v9:Option V,σ=[some (.int fo.w),some (.int fo.h),some (.int fo.least),some (.int fo.most),some (.int fo.many),some (.ref p),some (.ref d),some (.int (0 + (i:Int))),v8,v9]∧Same H1 H'∧H' l=some (.lst (ofs ms))∧
    Keys H' d (fun n=>n ∈ Vbexai.worldsOf fo i∨∃ a ∈ ms.take j,∃ b ∈ ks,n=a ||| b) (cap i + j * 288))
    ⟨v8,v9,rfl,fun b o e=>by rw [upd_ne (ne_of_none (S2 _ _ e) hl)]; exact S2 _ _ e,upd_same,⟨ms,by rw [upd_ne ndl]; exact e1,e2,fun n=>by simp [e3],by omega⟩⟩ (fun j σ H' _ ⟨_,_,_,_,q,_⟩=>SqL.of q) ?_ ?_⟩
   ·rintro j y σ H3 hj ⟨v8,v9,rfl,S3,hl3,K3⟩
    obtain ⟨m,hm,rfl⟩:=ofs_get hj
    have hjl:j < ms.length:=(List.getElem?_eq_some_iff.mp hm).1
    refine ⟨_,rfl,p,rfl,⟨_,SqL.of (S3 _ _ hp)⟩,for_list (xs:=ofs ks) (fun q σ H'=>∃ v9:Option V,σ=[some (.int fo.w),some (.int fo.h),some (.int fo.least),some (.int fo.most),some (.int fo.many),some (.ref p),some (.ref d),some (.int (0 + (i:Int))),some (.int (m:Nat)),v9]∧Same H1 H'∧H' l=some (.lst (ofs ms))∧
     Keys H' d (fun n=>(n ∈ Vbexai.worldsOf fo i∨∃ a ∈ ms.take j,∃ b ∈ ks,n=a ||| b)∨∃ b ∈ ks.take q,n=m ||| b) (cap i + j * 288 + q))
     ⟨v9,rfl,S3,hl3,K3.iff (fun n=>by simp) (by omega)⟩ (fun j σ H' _ ⟨_,_,q,_⟩=>SqL.of (q _ _ hp)) ?_ ?_⟩
    ·rintro q y σ H4 hq ⟨v9,rfl,S4,hl4,K4⟩
     obtain ⟨b,hb,rfl⟩:=ofs_get hq
     have hql:q < ks.length:=(List.getElem?_eq_some_iff.mp hb).1
     have c1:=capb1 i (by omega)
     have hj2:j * 288≤289 * 288:=Nat.mul_le_mul (by omega) (Nat.le_refl _)
     obtain ⟨H5,hput,K5,st⟩:=K4.put (nsize (by omega)) (m ||| b)
     refine ⟨_,rfl,_,rfl,_,rfl,_,_,rfl,rfl,d,H5,rfl,?_,some (.int (b:Nat)),rfl,fun c o e=>?_,?_,K5.iff (fun n=>?_) (by omega)⟩
     ·show DPut H4 d (V.int (Builtin.bitOr (m:Nat) (b:Nat))) _ _
      rw [bitOr_nat]; exact hput
     ·rw [st c (ne_of_none e hd)]; exact S4 c o e
     ·rw [st l (fun e=>ndl e.symm)]; exact hl4
     ·have et:ks.take (q + 1)=ks.take q ++ [b]:=by
       rw [List.take_add_one,hb]; rfl
      rw [et]
      constructor
      ·rintro ((h | ⟨b',h1,h2⟩) | h)
       ·exact .inl h
       ·exact .inr ⟨b',List.mem_append_left _ h1,h2⟩
       ·exact .inr ⟨b,by simp,h⟩
      ·rintro (h | ⟨b',h1,h2⟩)
       ·exact .inl (.inl h)
       ·rcases List.mem_append.mp h1 with h1 | h1
        ·exact .inl (.inr ⟨b',h1,h2⟩)
        ·rw [List.mem_singleton] at h1; subst h1; exact .inr h2
    ·rintro σ H4 ⟨v9,rfl,S4,hl4,K4⟩
     rw [ofs_len,List.take_length] at K4
     refine ⟨some (.int (m:Nat)),v9,rfl,S4,hl4,K4.iff (fun n=>?_) (by omega)⟩
     have et:ms.take (j + 1)=ms.take j ++ [m]:=by
      rw [List.take_add_one,hm]; rfl
     rw [et]
     constructor
     ·rintro ((h | ⟨a,h1,h2⟩) | h)
      ·exact .inl h
      ·exact .inr ⟨a,List.mem_append_left _ h1,h2⟩
      ·exact .inr ⟨m,by simp,h⟩
     ·rintro (h | ⟨a,h1,h2⟩)
      ·exact .inl (.inl h)
      ·rcases List.mem_append.mp h1 with h1 | h1
       ·exact .inl (.inr ⟨a,h1,h2⟩)
       ·rw [List.mem_singleton] at h1; subst h1; exact .inr h2
   ·rintro σ H3 ⟨v8,v9,rfl,S3,hl3,K3⟩
    rw [ofs_len,List.take_length] at K3
    refine ⟨_,v8,v9,rfl,S3,K3.iff (fun n=>?_) ?_⟩
    ·rw [mem_worlds_succ]
     constructor
     ·rintro (h | ⟨a,h1,b,h2,h3⟩)
      ·exact .inl h
      ·exact .inr ⟨a,(e3 a).mp h1,b,(hks b).mp h2,h3⟩
     ·rintro (h | ⟨a,h1,b,h2,h3⟩)
      ·exact .inl h
      ·exact .inr ⟨a,(e3 a).mpr h1,b,(hks b).mpr h2,h3⟩
    ·show cap i + ms.length * 288≤cap i + cap i * 288
     exact Nat.add_le_add_left (Nat.mul_le_mul_right _ e4) _
  ·rintro σ H2 ⟨v7,v8,v9,rfl,S2,K2⟩
   obtain ⟨ms,e1,e2,e3,e4⟩:=K2.ex
   refine ⟨_,rfl,d,tr ms,ms.map (fun (n:Nat)=>(n:Int)),rfl,e1,(by rw [tr_keys]; unfold ofs; rw [List.map_map]; rfl),fun ns' q hperm hsort nq=>?_⟩
   obtain ⟨zs,rfl,zp,zs2⟩:=sorted_nat hperm hsort e2
   have ez:zs=Vbexai.worlds fo:=sorted_ext zs2 (worlds_sorted fo) fun x=>(zp.mem_iff).trans (e3 x)
   subst ez
   have cb:=capb fo.many hy
   refine k _ q (fun b o e=>?_) (S1.free (S2.free nq)) ?_ (by rw [zp.length_eq]; omega)
   ·rw [upd_ne (ne_of_none (S2 _ _ (S1 _ _ e)) nq)]; exact S2 _ _ (S1 _ _ e)
   ·rw [upd_same,List.map_map]; rfl
end
end Rp
namespace Rp
open PySem PySem.Spec PyProof.Rows L2
theorem bit_test (x c:Nat) (b:Bool):decide (Builtin.bitAnd ((x:Int) / 2 ^ c) 1=Vbexai.bit b)=(Vbexai.hole x c == b):=by
 rw [bit_nat]
 unfold Vbexai.hole Vbexai.bit
 have h:x / 2 ^ c % 2=0∨x / 2 ^ c % 2=1:=by omega
 rcases h with h | h <;> rw [h] <;> cases b <;> decide
section
variable {P:Program} {w:World} {K:PySem.W.Frag} {mg:Str→Option Value} {base:Heap}
abbrev sAgr:Stmt:=top 4
def spAgr (K:PySem.W.Frag):Sp:=fun vs H Q _=>∃ (a:Addr) (ws:List Nat) (c:Nat) (b:Bool),vs=[.ref a,.int c,.int (Vbexai.bit b)]∧SqL K H a (ofs ws)∧ws.length≤100000∧
 ∀ (H':Hp) (p:Addr),Same H H'→H p=none→H' p=some (.lst (ofs (ws.filter fun x=>Vbexai.hole x c == b)))→Q (.ref p) H'
theorem scAgr:FnScope ["numbers","cell","value","number"] ["numbers","cell","value"] (defScope sAgr):=⟨rfl,rfl,rfl,by decide +kernel,rfl,by decide +kernel,by decide +kernel⟩
theorem ok_agr {f:Addr} {fd:FuncData} (F:Fun K "agreeing" "agreeing" sAgr f fd):FnOk P w K mg base CX0 1 f fd ["numbers","cell","value"] (spAgr K):=by
 refine F.ok scAgr (fun vs H Q E h=>?_) (fun cdv A outer s H vs Q E hr h=>?_)
 ·obtain ⟨a,ws,c,b,rfl,_⟩:=h
  rfl
 ·obtain ⟨a,ws,c,b,rfl,hS,hlen,k⟩:=h
  have nd:=scAgr.nd
  refine ⟨_,pss_one (ps_ret (pe_lc rfl nd (pi_list (pv 0)) (blkOk_by (own:=[("number",3)]) (by show blkC ["numbers","cell","value","number"] (defScope sAgr) _ _=true; decide +kernel)) (fun _ _ _ _ _=>pg_name (i:=3) nd rfl (Or.inl rfl))
   (fun _ _ _ _ _=>pts_one (pt_cmpR op_eq (pe_op op_and (pe_op op_shr (pv 3) (pv 1)) pe_int) (pv 2) (nomark _))) (fun _ _ _ _ _=>pv 3))),?_⟩
  refine ⟨_,rfl,a,rfl,⟨_,hS⟩,fun D hD=>?_⟩
  have s0:Same H (upd H D (.lst [])):=fun b o e=>by rw [upd_ne (ne_of_none e hD)]; exact e
  refine lc_list (xs:=ofs ws) (fun i H'=>Same H H'∧H' D=some (.lst (ofs ((ws.take i).filter fun x=>Vbexai.hole x c == b)))) ⟨s0,upd_same⟩ (fun i H' _ h=>h.1.seq hS) ?_ ?_
  ·rintro i y H' hi ⟨S,hd⟩
   obtain ⟨x,hx,rfl⟩:=ofs_get hi
   refine ⟨rfl,_,rfl,_,rfl,_,_,rfl,rfl,(by omega),_,_,rfl,rfl,_,rfl,rfl,_,rfl,?_⟩
   have et:∀ j:Int,j=Builtin.bitAnd ((x:Int) / 2 ^ (c:Int).toNat) 1→decide (V.int j=V.int (Vbexai.bit b))=(Vbexai.hole x c == b):=by
    intro j ej
    rw [Int.toNat_natCast] at ej
    subst ej
    rw [← bit_test]
    by_cases q:Builtin.bitAnd ((x:Int) / 2 ^ c) 1=Vbexai.bit b
    ·rw [q]; simp
    ·rw [decide_eq_false q,decide_eq_false (fun z=>q (V.int.inj z))]
   refine ite2 (fun hb=>?_) (fun hb=>?_)
   ·rw [et _ rfl] at hb
    refine ⟨_,rfl,_,hd,?_,fun b' o e=>?_,?_⟩
    ·rw [ofs_len]
     have l1:=List.length_filter_le (fun x=>Vbexai.hole x c == b) (ws.take i)
     rw [List.length_take] at l1
     exact nsize (Nat.le_trans l1 (by omega))
    ·rw [upd_ne (ne_of_none e hD)]; exact S b' o e
    ·rw [upd_same,take_snoc hx,List.filter_append,List.filter_cons,if_pos hb,List.filter_nil]
     unfold ofs
     rw [List.map_append]; rfl
   ·rw [et _ rfl] at hb
    refine ⟨S,?_⟩
    rw [take_snoc hx,List.filter_append,List.filter_cons,if_neg hb,List.filter_nil,List.append_nil]
    exact hd
  ·rintro H' ⟨S,hd⟩
   rw [ofs_len,List.take_length] at hd
   exact k H' D S hD hd
abbrev sEver:Stmt:=top 5
def spEver (K:PySem.W.Frag):Sp:=fun vs H Q _=>∃ (a:Addr) (ws:List Nat),vs=[.ref a]∧SqL K H a (ofs ws)∧Q (.int (orW ws:Nat)) H
theorem scEver:FnScope ["numbers","ever","number"] ["numbers"] (defScope sEver):=⟨rfl,rfl,rfl,by decide +kernel,rfl,by decide +kernel,by decide +kernel⟩
theorem ok_ever {f:Addr} {fd:FuncData} (F:Fun K "ever_holes" "ever_holes" sEver f fd):FnOk P w K mg base CX0 1 f fd ["numbers"] (spEver K):=by
 refine F.ok scEver (fun vs H Q E h=>?_) (fun cdv A outer s H vs Q E hr h=>?_)
 ·obtain ⟨a,ws,rfl,_⟩:=h
  rfl
 ·obtain ⟨a,ws,rfl,hS,k⟩:=h
  have nd:=scEver.nd
  refine ⟨_,pss_cons (ps_set (i:=1) nd rfl (Or.inl rfl) pe_int)
   (pss_cons (ps_for PassesOwn.never rfl (pi_list (pv 0)) (pg_name (i:=2) nd rfl (Or.inl rfl))
    (pss_one (ps_set (i:=1) nd rfl (Or.inl rfl) (pe_op op_or (pv 1) (pv 2)))))
   (pss_one (ps_ret (pv 1)))),?_⟩
  refine ⟨_,rfl,a,rfl,⟨_,hS⟩,for_list (xs:=ofs ws) (fun i σ H'=>∃ v2:Option V,σ=[some (.ref a),some (.int (orW (ws.take i):Nat)),v2]∧H'=H) ⟨none,rfl,rfl⟩ (fun i σ H' _ ⟨_,_,e⟩=>by subst e; exact hS) ?_ ?_⟩
  ·rintro i y σ H' hi ⟨v2,rfl,rfl⟩
   obtain ⟨x,hx,rfl⟩:=ofs_get hi
   refine ⟨_,rfl,_,rfl,_,_,rfl,rfl,some (.int (x:Nat)),?_,rfl⟩
   show [some (V.ref a),some (V.int (Builtin.bitOr (orW (ws.take i):Nat) (x:Nat))),some (V.int (x:Nat))]=_
   rw [bitOr_nat,take_snoc hx,orW_snoc]
  ·rintro σ H' ⟨v2,rfl,rfl⟩
   rw [ofs_len,List.take_length]
   exact ⟨_,rfl,k⟩
abbrev sHoles:Stmt:=top 6
def spHoles:Sp:=fun vs H Q _=>∃ x n:Nat,vs=[.int x]∧x < 2 ^ n∧n≤100∧
 ∀ (H':Hp) (p:Addr),Same H H'→H p=none→H' p=some (.lst (ofs ((List.range n).filter (Vbexai.hole x))))→Q (.ref p) H'
theorem scHoles:FnScope ["number","cells","left","lowest"] ["number"] (defScope sHoles):=⟨rfl,rfl,rfl,by decide +kernel,rfl,by decide +kernel,by decide +kernel⟩
theorem bits_nat (x:Nat):∃ m,Builtin.Int.intBits (x:Int)=m∧x < 2 ^ m∧∀ n,x < 2 ^ n→m≤n:=by
 refine ⟨_,rfl,?_⟩
 unfold Builtin.Int.intBits
 by_cases h:x=0
 ·subst h
  simp
 ·have h':¬ ((x:Int) == 0)=true:=by simp; omega
  rw [if_neg h',Int.natAbs_natCast]
  refine ⟨Nat.lt_log2_self,fun n hn=>?_⟩
  exact (Nat.log2_lt h).mpr hn
theorem bits_pow (j:Nat):Builtin.Int.intBits ((2 ^ j:Nat):Int)=j + 1:=by
 obtain ⟨m,e,h1,h2⟩:=bits_nat (2 ^ j)
 rw [e]
 have a:=h2 (j + 1) (Nat.pow_lt_pow_right (by decide) (Nat.lt_succ_self j))
 have b:=(Nat.pow_lt_pow_iff_right (by decide)).mp h1
 omega
theorem range_filter {m n:Nat} (h:m≤n) (p:Nat→Bool) (hp:∀ i,m≤i→i < n→p i=false):(List.range n).filter p=(List.range m).filter p:=by
 induction n with
 |zero=>
  have:m=0:=by omega
  subst this; rfl
 |succ n ih=>
  by_cases e:m=n + 1
  ·subst e; rfl
  ·rw [List.range_succ,List.filter_append,ih (by omega) (fun i h1 h2=>hp i h1 (by omega)),List.filter_cons,if_neg (by rw [hp n (by omega) (by omega)]; decide),List.filter_nil,List.append_nil]
theorem bitAnd_neg {y:Nat} (h:0 < y):Builtin.bitAnd (y:Int) (-(y:Int))=((y - (y &&& (y - 1)):Nat):Int):=by
 unfold Builtin.bitAnd Builtin.bitNot
 have h1:¬ (0:Int)≤-(y:Int):=by omega
 rw [decide_eq_true (Int.natCast_nonneg y),decide_eq_false h1]
 have e:(- -(y:Int) - 1).toNat=y - 1:=by omega
 show (y:Int) - (((y:Int).toNat &&& (- -(y:Int) - 1).toNat:Nat):Int)=_
 rw [e,Int.toNat_natCast,Int.ofNat_sub Nat.and_le_left]
theorem ok_holes {f:Addr} {fd:FuncData} (F:Fun K "holes" "holes" sHoles f fd):FnOk P w K mg base CX0 1 f fd ["number"] spHoles:=by
 refine F.ok scHoles (fun vs H Q E h=>?_) (fun cdv A outer s H vs Q E hr h=>?_)
 ·obtain ⟨x,n,rfl,_⟩:=h
  rfl
 ·obtain ⟨x,n,rfl,hx,hn,k⟩:=h
  have nd:=scHoles.nd
  refine ⟨_,pss_cons (ps_set (i:=1) nd rfl (Or.inl rfl) (pe_lst pa_nil))
   (pss_cons (ps_set (i:=2) nd rfl (Or.inl rfl) (pv 0))
   (pss_cons (ps_while PassesOwn.never (pt_cmpR op_gt (pv 2) pe_int (nomark _))
    (pss_cons (ps_set (i:=3) nd rfl (Or.inl rfl) (pe_op op_and (pv 2) (pe_un un_neg (pv 2))))
    (pss_cons (ps_expr (pe_bm PySem.F.plainAttrs_list PySem.F.slot_list_append PySem.F.type_list_append mt_append (pv 1)
     (pa_cons (pe_op op_sub (pe_bm0 PySem.F.plainAttrs_int PySem.F.slot_int_bit_length PySem.F.type_int_bit_length mt_bits (pv 3)) pe_int) pa_nil)))
    (pss_one (ps_set (i:=2) nd rfl (Or.inl rfl) (pe_op op_xor (pv 2) (pv 3)))))))
   (pss_one (ps_ret (pv 1))))),?_⟩
  refine ⟨(by show 0≤sizeLine; decide),fun l hl=>⟨_,rfl,?_⟩⟩
  refine while_x (fun σ H'=>∃ (kk left:Nat) (v3:Option V),σ=[some (.int x),some (.ref l),some (.int (left:Nat)),v3]∧Same H H'∧H' l=some (.lst (ofs ((List.range kk).filter (Vbexai.hole x))))∧kk≤n∧∀ i,left.testBit i=(decide (kk≤i) && x.testBit i))
   (fun σ _=>(intAt 2 σ).toNat)
   ⟨0,x,none,rfl,(Same.refl H).new hl,upd_same,Nat.zero_le _,fun i=>by simp⟩ ?_
  rintro σ H1 ⟨kk,left,v3,rfl,S1,hl1,hk,hL⟩
  refine ⟨_,rfl,_,_,rfl,rfl,_,rfl,ite2 (fun ht=>?_) (fun ht=>?_)⟩
  ·have hpos:0 < left:=by have:=of_decide_eq_true ht; omega
   obtain ⟨j,m,ej⟩:=low_bit (left + 1) left (Nat.lt_succ_self _) hpos
   obtain ⟨t1,t2,t3,t4⟩:=holes_turn hL ej
   have hjn:j < n:=Nat.lt_of_not_le fun hle=>by
    rw [Nat.testBit_lt_two_pow (Nat.lt_of_lt_of_le hx (Nat.pow_le_pow_right (by decide) hle))] at t2
    cases t2
   have hand:Builtin.bitAnd (left:Int) (-(left:Int))=((2 ^ j:Nat):Int):=by rw [bitAnd_neg hpos,ej,low_sub]
   have hxor:Builtin.bitXor (left:Int) ((2 ^ j:Nat):Int)=((2 ^ (j + 1) * m:Nat):Int):=by rw [bitXor_nat,ej,low_xor]
   refine ⟨fun σ' H'=>∃ v3:Option V,σ'=[some (.int x),some (.ref l),some (.int ((2 ^ (j + 1) * m:Nat):Int)),v3]∧Same H H'∧H' l=some (.lst (ofs ((List.range (j + 1)).filter (Vbexai.hole x)))),?_,?_⟩
   ·rintro σ' H' ⟨w3,rfl,a1,a2⟩
    refine ⟨_,?_,rfl,j + 1,2 ^ (j + 1) * m,w3,rfl,a1,a2,hjn,t4⟩
    show ((2 ^ (j + 1) * m:Nat):Int).toNat < ((left:Nat):Int).toNat
    rw [Int.toNat_natCast,Int.toNat_natCast,ej,low_eq]
    have:=Nat.two_pow_pos j
    omega
   have hlenf:(ofs ((List.range kk).filter (Vbexai.hole x))).length < sizeLine:=by
    rw [ofs_len]
    have l1:=List.length_filter_le (Vbexai.hole x) (List.range kk)
    rw [List.length_range] at l1
    exact nsize (by omega)
   have hfil:(List.range (j + 1)).filter (Vbexai.hole x)=(List.range kk).filter (Vbexai.hole x) ++ [j]:=by
    rw [List.range_succ,List.filter_append,range_filter t1 (Vbexai.hole x) (fun i h1 h2=>by rw [hole_eq]; exact t3 i h1 h2),List.filter_cons,if_pos (by rw [hole_eq]; exact t2),List.filter_nil]
   refine ⟨_,rfl,_,rfl,_,rfl,_,_,rfl,rfl,?_⟩
   dsimp only
   rw [hand]
   refine ⟨_,rfl,.inl ⟨rfl,_,SqL.of hl1⟩,_,rfl,rfl,_,rfl,rfl,_,_,rfl,rfl,l,_,_,rfl,rfl,hl1,hlenf,?_⟩
   refine ⟨_,rfl,_,rfl,_,_,rfl,rfl,some (.int ((2 ^ j:Nat):Int)),?_,S1.up hl,?_⟩
   ·rw [← hxor]; rfl
   ·rw [upd_same,hfil]
    dsimp only
    have e1:((Builtin.Int.intBits ((2 ^ j:Nat):Int):Nat):Int) - 1=(j:Int):=by rw [bits_pow]; omega
    rw [e1]
    unfold ofs
    rw [List.map_append]; rfl
  ·have hz:left=0:=by
    have:¬ (0:Int) < (left:Int):=fun z=>ht (decide_eq_true z)
    omega
   subst hz
   refine ⟨_,rfl,?_⟩
   refine k H1 l S1 hl ?_
   rw [range_filter hk (Vbexai.hole x) fun i h1 h2=>?_]
   ·exact hl1
   ·have:=hL i
    rw [Nat.zero_testBit] at this
    rw [hole_eq]
    simpa [h1] using this.symm
abbrev sHc:Stmt:=top 7
def cnts (ws:List Nat) (n:Nat):List Nat:=(List.range n).map fun c=>ws.countP fun x=>Vbexai.hole x c
def spHc (K:PySem.W.Frag):Sp:=fun vs H Q _=>∃ (a:Addr) (ws:List Nat) (n:Nat),vs=[.ref a,.int n]∧SqL K H a (ofs ws)∧n≤100∧(∀ x ∈ ws,x < 2 ^ n)∧
 ∀ (H':Hp) (p:Addr),Same H H'→H p=none→H' p=some (.lst (ofs (cnts ws n)))→Q (.ref p) H'
theorem scHc:FnScope ["numbers","cell_count","counts","number","cell"] ["numbers","cell_count"] (defScope sHc):=⟨rfl,rfl,rfl,by decide +kernel,rfl,by decide +kernel,by decide +kernel⟩
theorem rep_int (n:Nat):(List.replicate n [V.int 0]).flatten=ofs ((List.range n).map fun _=>0):=by
 unfold ofs
 rw [List.map_map]
 induction n with
 |zero=>rfl
 |succ n ih=>
  rw [List.replicate_succ',List.flatten_append,ih,List.range_succ,List.map_append]; rfl
theorem ofs_set (ns:List Nat) (c v:Nat):(ofs ns).set c (.int (v:Int))=ofs (ns.set c v):=by
 unfold ofs
 rw [List.map_set]
theorem ixN_nat {n c:Nat} (h:c < n):ixN n (c:Int)=some c:=by
 unfold ixN
 rw [if_pos (Int.natCast_nonneg c),if_pos (by omega),Int.toNat_natCast]
theorem ok_hc {f f1:Addr} {fd fd1:FuncData} (F:Fun K "hole_counts" "hole_counts" sHc f fd) (G1:FnOk P w K mg base CX0 1 f1 fd1 ["number"] spHoles) (k1:PySem.W.keepIn K (.ref f1)=true) (b1:Binds K fd1 ["number"] []) (g1:mg "holes"=some (.ref f1)) :
  FnOk P w K mg base CX0 2 f fd ["numbers","cell_count"] (spHc K):=by
 refine F.ok scHc (fun vs H Q E h=>?_) (fun cdv A outer s H vs Q E hr h=>?_)
 ·obtain ⟨a,ws,n,rfl,_⟩:=h
  rfl
 ·obtain ⟨a,ws,n,rfl,hS,hn,hw,k⟩:=h
  have nd:=scHc.nd
  refine ⟨_,pss_cons (ps_set (i:=2) nd rfl (Or.inl rfl) (pe_op op_rep (pe_lst (pa_cons pe_int pa_nil)) (pv 1)))
   (pss_cons (ps_for PassesOwn.never rfl (pi_list (pv 0)) (pg_name (i:=3) nd rfl (Or.inl rfl))
    (pss_one (ps_for PassesOwn.never rfl (pi_list (pe_call G1 hr rfl g1 k1 b1 .nil pass0 (pa_cons (pv 3) pa_nil))) (pg_name (i:=4) nd rfl (Or.inl rfl))
     (pss_one (ps_augS (pv 2) (pv 4) get_list pe_int ip_add set_list)))))
   (pss_one (ps_ret (pv 2)))),?_⟩
  refine ⟨(by show 1≤sizeLine; decide),fun q hq=>⟨_,rfl,q,_,_,rfl,rfl,upd_same,by omega,by omega,(by show 1 * (n:Int).toNat≤sizeLine; rw [Int.toNat_natCast]; have:=nsize (n:=1 * n) (by omega); omega),fun l hl=>?_⟩⟩
  have S0:Same H (upd H q (.lst [.int 0])):=(Same.refl H).new hq
  have nHl:H l=Option.none:=S0.free hl
  refine ⟨_,rfl,a,rfl,⟨_,(S0.new hl).seq hS⟩,for_list (xs:=ofs ws) (fun i σ H'=>∃ v3 v4:Option V,σ=[some (.ref a),some (.int n),some (.ref l),v3,v4]∧Same H H'∧H' l=some (.lst (ofs (cnts (ws.take i) n))))
   ⟨none,none,rfl,S0.new hl,by rw [upd_same,Int.toNat_natCast,rep_int]; rfl⟩ (fun i σ H' _ ⟨_,_,_,S,_⟩=>S.seq hS) ?_ ?_⟩
  ·rintro i y σ H1 hi ⟨v3,v4,rfl,S1,hl1⟩
   obtain ⟨x,hx,rfl⟩:=ofs_get hi
   have hxn:=hw x (List.mem_of_getElem? hx)
   refine ⟨_,rfl,x,n,rfl,hxn,hn,fun H2 p S2 np hp=>?_⟩
   have S12:=S1.trans S2
   have npl:l ≠ p:=ne_of_none hl1 np
   generalize ehs:(List.range n).filter (Vbexai.hole x)=hs at hp
   have hnd:hs.Nodup:=by rw [← ehs]; exact List.nodup_range.filter _
   have hmem:∀ c,c ∈ hs↔c < n∧Vbexai.hole x c=true:=fun c=>by rw [← ehs,List.mem_filter,List.mem_range]
   refine ⟨p,rfl,⟨_,SqL.of hp⟩,for_list (xs:=ofs hs) (fun q σ H'=>∃ v4:Option V,σ=[some (.ref a),some (.int n),some (.ref l),some (.int (x:Nat)),v4]∧Same H H'∧H' p=some (.lst (ofs hs))∧
    H' l=some (.lst (ofs ((List.range n).map fun c=>(ws.take i).countP (fun x=>Vbexai.hole x c) + if c ∈ hs.take q then 1 else 0))))
    ⟨v4,rfl,S12,hp,by rw [S2 _ _ hl1]; simp [cnts]⟩ (fun _ σ H' _ ⟨_,_,_,q,_⟩=>SqL.of q) ?_ ?_⟩
   ·rintro q y σ H3 hq' ⟨v4,rfl,S3,hp3,hl3⟩
    obtain ⟨c,hc,rfl⟩:=ofs_get hq'
    have hcn:=((hmem c).mp (List.mem_of_getElem? hc)).1
    have hcq:c ∉ hs.take q:=fun z=>by
     obtain ⟨q',hq1⟩:=List.mem_iff_getElem?.mp z
     rw [List.getElem?_take] at hq1
     by_cases h:q' < q
     ·rw [if_pos h] at hq1
      have:=nd_ix hnd hq1 hc
      omega
     ·rw [if_neg h] at hq1; cases hq1
    refine ⟨_,rfl,_,rfl,l,_,c,_,rfl,rfl,SqL.of hl3,(by unfold ofs; rw [List.getElem?_map,map_range_at _ hcn]; rfl),_,_,rfl,rfl,l,_,_,_,rfl,rfl,hl3,ixN_nat (by rw [ofs_len,List.length_map,List.length_range]; exact hcn),some (.int (c:Nat)),rfl,S3.up nHl,?_,?_⟩
    ·rw [upd_ne (fun e=>npl e.symm)]; exact hp3
    ·rw [upd_same,if_neg hcq,Nat.add_zero]
     dsimp only
     have e1:(((ws.take i).countP (fun x=>Vbexai.hole x c):Nat):Int) + 1=(((ws.take i).countP (fun x=>Vbexai.hole x c) + 1:Nat):Int):=by omega
     rw [e1,ofs_set,map_range_set,take_snoc hc]
     congr 3
     apply List.map_congr_left
     intro c' _
     by_cases e:c'=c
     ·subst e; simp
     ·simp [e]
   ·rintro σ H3 ⟨v4,rfl,S3,hp3,hl3⟩
    rw [ofs_len,List.take_length] at hl3
    refine ⟨_,v4,rfl,S3,?_⟩
    rw [hl3,take_snoc hx]
    unfold cnts
    congr 3
    apply List.map_congr_left
    intro c hc
    rw [List.mem_range] at hc
    rw [List.countP_append,List.countP_singleton]
    by_cases e:Vbexai.hole x c=true
    ·rw [if_pos ((hmem c).mpr ⟨hc,e⟩),if_pos e]
    ·rw [if_neg (fun z=>e ((hmem c).mp z).2),if_neg e]
  ·rintro σ H1 ⟨v3,v4,rfl,S1,hl1⟩
   rw [ofs_len,List.take_length] at hl1
   exact ⟨_,rfl,k H1 l S1 nHl hl1⟩
abbrev sCn:Stmt:=top 8
def spCn (K:PySem.W.Frag):Sp:=fun vs H Q _=>∃ (a:Addr) (cs:List Nat),vs=[.ref a]∧SqL K H a (ofs cs)∧(∀ c ∈ cs,c≤1000)∧Q (.int (orAll 0 cs:Nat)) H
theorem scCn:FnScope ["cells","number","cell"] ["cells"] (defScope sCn):=⟨rfl,rfl,rfl,by decide +kernel,rfl,by decide +kernel,by decide +kernel⟩
theorem ok_cn {f:Addr} {fd:FuncData} (F:Fun K "cells_number" "cells_number" sCn f fd):FnOk P w K mg base CX0 1 f fd ["cells"] (spCn K):=by
 refine F.ok scCn (fun vs H Q E h=>?_) (fun cdv A outer s H vs Q E hr h=>?_)
 ·obtain ⟨a,ws,rfl,_⟩:=h
  rfl
 ·obtain ⟨a,cs,rfl,hS,hcs,k⟩:=h
  have nd:=scCn.nd
  refine ⟨_,pss_cons (ps_set (i:=1) nd rfl (Or.inl rfl) pe_int)
   (pss_cons (ps_for PassesOwn.never rfl (pi_list (pv 0)) (pg_name (i:=2) nd rfl (Or.inl rfl))
    (pss_one (ps_set (i:=1) nd rfl (Or.inl rfl) (pe_op op_or (pv 1) (pe_op op_shl pe_int (pv 2))))))
   (pss_one (ps_ret (pv 1)))),?_⟩
  refine ⟨_,rfl,a,rfl,⟨_,hS⟩,for_list (xs:=ofs cs) (fun i σ H'=>∃ v2:Option V,σ=[some (.ref a),some (.int (orAll 0 (cs.take i):Nat)),v2]∧H'=H) ⟨none,rfl,rfl⟩ (fun i σ H' _ ⟨_,_,e⟩=>by subst e; exact hS) ?_ ?_⟩
  ·rintro i y σ H' hi ⟨v2,rfl,rfl⟩
   obtain ⟨c,hc,rfl⟩:=ofs_get hi
   have hc1:=hcs c (List.mem_of_getElem? hc)
   refine ⟨_,rfl,_,rfl,_,_,rfl,rfl,⟨by omega,by omega,by decide⟩,_,_,rfl,rfl,some (.int (c:Nat)),?_,rfl⟩
   show [some (V.ref a),some (V.int (Builtin.bitOr (orAll 0 (cs.take i):Nat) (1 * 2 ^ ((c:Nat):Int).toNat))),some (V.int (c:Nat))]=_
   rw [Int.toNat_natCast,pow_nat,bitOr_nat,take_snoc hc,orAll_snoc]
  ·rintro σ H' ⟨v2,rfl,rfl⟩
   rw [ofs_len,List.take_length]
   exact ⟨_,rfl,k⟩
end
end Rp
namespace Rp
open PySem PySem.Spec PyProof.Rows L2
section
variable {P:Program} {w:World} {K:PySem.W.Frag} {mg:Str→Option Value} {base:Heap}
structure StepsOk (K:PySem.W.Frag) (mg:Str→Option Value):Prop where
 ex:∃ (aS:Addr) (as:List Addr),mg "STEPS"=some (.ref aS)∧(∀ H,SqT K H aS (as.map V.ref))∧as.length=8∧∀ (d:Nat) (v:Int × Int),Vbexai.DIRS[d]?=some v→∃ a,as[d]?=some a∧∀ H,SqT K H a [.int v.1,.int v.2]
def nbV:Option Nat→V
 |none=>.non
 |some q=>.int (q:Nat)
abbrev sNb:Stmt:=top 34
def spNb:Sp:=fun vs H Q _=>∃ (f:Vbexai.Form) (c d:Nat),vs=[.int f.w,.int f.h,.int c,.int d]∧(1≤f.w∧f.w≤6∧f.h≤6∧c < f.w * f.h∧d < 8)∧Q (nbV (Vbexai.toward f c d)) H
theorem scNb:FnScope ["width","height","cell","direction","x","y"] ["width","height","cell","direction"] (defScope sNb):=⟨rfl,rfl,rfl,by decide +kernel,rfl,by decide +kernel,by decide +kernel⟩
theorem dirs_some {d:Nat} (h:d < 8):∃ v,Vbexai.DIRS[d]?=some v∧-1≤v.1∧v.1≤1∧-1≤v.2∧v.2≤1:=by
 have:d=0∨d=1∨d=2∨d=3∨d=4∨d=5∨d=6∨d=7:=by omega
 rcases this with rfl | rfl | rfl | rfl | rfl | rfl | rfl | rfl <;> exact ⟨_,rfl,by decide,by decide,by decide,by decide⟩
theorem toward_def {f:Vbexai.Form} {c d:Nat} {v:Int × Int} (h:Vbexai.DIRS[d]?=some v):Vbexai.toward f c d =
  if 0≤((c % f.w:Nat):Int) + v.1∧((c % f.w:Nat):Int) + v.1 < (f.w:Int)∧0≤((c / f.w:Nat):Int) + v.2∧((c / f.w:Nat):Int) + v.2 < (f.h:Int) then some ((((c / f.w:Nat):Int) + v.2).toNat * f.w + (((c % f.w:Nat):Int) + v.1).toNat) else none:=by
 unfold Vbexai.toward
 rw [h]
 rfl
theorem ok_nb {f:Addr} {fd:FuncData} (F:Fun K "neighbour" "neighbour" sNb f fd) (T:StepsOk K mg):FnOk P w K mg base CX0 1 f fd ["width","height","cell","direction"] spNb:=by
 obtain ⟨aS,as,gS,hS,hl8,hat⟩:=T.ex
 refine F.ok scNb (fun vs H Q E h=>?_) (fun cdv A outer s H vs Q E hr h=>?_)
 ·obtain ⟨fo,c,d,rfl,_⟩:=h
  rfl
 ·obtain ⟨fo,c,d,rfl,⟨hw1,hw6,hh6,hc,hd⟩,k⟩:=h
  have nd:=scNb.nd
  refine ⟨_,pss_cons (ps_set (i:=4) nd rfl (Or.inl rfl) (pe_op op_add (pe_op op_mod (pv 2) (pv 0)) (pe_ix ix_tup (pe_ix ix_tup (pe_glob (v:=.ref aS) rfl gS rfl) (pv 3) (fun _ _=>rfl)) pe_int (fun _ _=>rfl))))
   (pss_cons (ps_set (i:=5) nd rfl (Or.inl rfl) (pe_op op_add (pe_op op_fdiv (pv 2) (pv 0)) (pe_ix ix_tup (pe_ix ix_tup (pe_glob (v:=.ref aS) rfl gS rfl) (pv 3) (fun _ _=>rfl)) pe_int (fun _ _=>rfl))))
   (pss_cons (ps_if (pw_and (pt_chain op_le op_lt pe_int (pv 4) (pv 0)) (pw_and1 (pt_chain op_le op_lt pe_int (pv 5) (pv 1)))).pt (pss_one (ps_ret (pe_op op_add (pe_op op_mul (pv 5) (pv 0)) (pv 4)))) pss_nil)
   (pss_one (ps_ret pe_non)))),?_⟩
  obtain ⟨v,hv,v1,v2,v3,v4⟩:=dirs_some hd
  obtain ⟨a,ha,hA⟩:=hat d v hv
  have hix:atI (as.map V.ref) (d:Int)=some (.ref a):=atI_nat (by rw [List.getElem?_map,ha]; rfl)
  have ex:(c:Int) % (fo.w:Int)=((c % fo.w:Nat):Int):=(Int.natCast_emod _ _).symm
  have ey:(c:Int) / (fo.w:Int)=((c / fo.w:Nat):Int):=(Int.natCast_ediv _ _).symm
  have hxl:=mod_lt_w hc
  have hyl:=div_lt_h hc
  rw [toward_def hv] at k
  refine ⟨_,rfl,_,rfl,_,_,rfl,rfl,(by omega),_,rfl,aS,_,_,_,rfl,rfl,hS _,hix,a,_,_,_,rfl,rfl,hA _,rfl,_,_,rfl,rfl,?_⟩
  rw [ex]
  refine ⟨_,rfl,_,rfl,_,_,rfl,rfl,⟨by omega,by omega⟩,_,rfl,aS,_,_,_,rfl,rfl,hS _,hix,a,_,_,_,rfl,rfl,hA _,rfl,_,_,rfl,rfl,?_⟩
  rw [ey]
  have no:¬ (0≤(((c % fo.w:Nat):Int) + v.1)∧(((c % fo.w:Nat):Int) + v.1) < (fo.w:Int)∧0≤(((c / fo.w:Nat):Int) + v.2)∧(((c / fo.w:Nat):Int) + v.2) < (fo.h:Int))→Q .non H:=fun h=>by rw [if_neg h] at k; exact k
  refine ⟨_,rfl,_,_,rfl,rfl,_,rfl,ite2 (fun h1=>?_) (fun h1=>?_)⟩
  ·refine ⟨_,rfl,_,_,rfl,rfl,_,rfl,ite2 (fun h2=>?_) (fun h2=>?_)⟩
   ·refine ⟨_,rfl,_,_,rfl,rfl,_,rfl,ite2 (fun h3=>?_) (fun h3=>?_)⟩
    ·refine ⟨_,rfl,_,_,rfl,rfl,_,rfl,ite2 (fun h4=>?_) (fun h4=>?_)⟩
     ·have q1:0≤(((c % fo.w:Nat):Int) + v.1):=of_decide_eq_true h1
      have q2:(((c % fo.w:Nat):Int) + v.1) < (fo.w:Int):=of_decide_eq_true h2
      have q3:0≤(((c / fo.w:Nat):Int) + v.2):=of_decide_eq_true h3
      have q4:(((c / fo.w:Nat):Int) + v.2) < (fo.h:Int):=of_decide_eq_true h4
      rw [if_pos ⟨q1,q2,q3,q4⟩] at k
      refine ⟨_,rfl,_,rfl,_,_,rfl,rfl,.inl ⟨by omega,by omega⟩,_,rfl,_,_,rfl,rfl,?_⟩
      have e:(((c / fo.w:Nat):Int) + v.2) * (fo.w:Int) + (((c % fo.w:Nat):Int) + v.1)=(((((c / fo.w:Nat):Int) + v.2).toNat * fo.w + (((c % fo.w:Nat):Int) + v.1).toNat:Nat):Int):=by
       rw [Int.natCast_add,Int.natCast_mul,Int.toNat_of_nonneg q3,Int.toNat_of_nonneg q1]
      show Q (V.int ((((c / fo.w:Nat):Int) + v.2) * (fo.w:Int) + (((c % fo.w:Nat):Int) + v.1))) H
      rw [e]
      exact k
     ·exact no fun h=>h4 (decide_eq_true h.2.2.2)
    ·exact ⟨_,rfl,iteF (no fun h=>h3 (decide_eq_true h.2.2.1))⟩
   ·exact iteF (no fun h=>h2 (decide_eq_true h.2.1))
  ·exact ⟨_,rfl,iteF (iteF (no fun h=>h1 (decide_eq_true h.1)))⟩
abbrev fkv (rs:List (Nat × Nat)):List (Key × V):=rs.map fun p=>(Sum.inl (p.1:Int),V.int (p.2:Int))
theorem fkv_val (rs:List (Nat × Nat)) (c:Nat):valV (fkv rs) (Sum.inl (c:Int))=(far rs c).map fun n=>V.int (n:Int):=by
 unfold fkv far
 induction rs with
 |nil=>rfl
 |cons p l ih=>
  rw [List.map_cons,List.find?_cons]
  by_cases e:p.1=c
  ·rw [valV_pos (by rw [e])]
   subst e
   simp
  ·have e1:¬ (Sum.inl (p.1:Int):Key)=Sum.inl (c:Int):=fun q=>e (by have:=Sum.inl.inj q; omega)
   have e2:(p.1 == c)=false:=by simpa using e
   rw [valV_neg e1,ih,e2]
theorem fkv_put (rs:List (Nat × Nat)) (q m:Nat) (h:far rs q=none):putK (fkv rs) (Sum.inl (q:Int)) (V.int (m:Int))=fkv (rs ++ [(q,m)]):=by
 rw [putK_new]
 ·unfold fkv; rw [List.map_append]; rfl
 ·rw [fkv_val,h]; rfl
abbrev sDist:Stmt:=top 37
def okD (ks:List Nat) (c:Nat):Bool:=decide (c ∈ ks)
def spDist:Sp:=fun vs H Q _=>∃ (f:Vbexai.Form) (fm:Addr) (ks:List Nat) (g:Nat),vs=[.int f.w,.int f.h,.ref fm,.int g]∧(1≤f.w∧f.w≤6∧f.h≤6)∧H fm=some (.dK (tr ks))∧g ∈ ks∧(∀ c ∈ ks,c < f.w * f.h)∧
 ∀ (H':Hp) (d:Addr) (rs:List (Nat × Nat)),Same H H'→H d=none→H' d=some (.dK (fkv rs))→FarOk f (okD ks) g (far rs)→Q (.ref d) H'
theorem scDist:FnScope ["width","height","firm","goal","far","reached","at","cell","direction","other"] ["width","height","firm","goal"] (defScope sDist):=⟨rfl,rfl,rfl,by decide +kernel,rfl,by decide +kernel,by decide +kernel⟩
theorem ok_dist {f f1:Addr} {fd fd1:FuncData} (F:Fun K "distances" "distances" sDist f fd) (B:Blt mg) (T:StepsOk K mg) (G1:FnOk P w K mg base CX0 1 f1 fd1 ["width","height","cell","direction"] spNb) (k1:PySem.W.keepIn K (.ref f1)=true)
  (b1:Binds K fd1 ["width","height","cell","direction"] []) (g1:mg "neighbour"=some (.ref f1)) :
  FnOk P w K mg base CX0 2 f fd ["width","height","firm","goal"] spDist:=by
 obtain ⟨aS,as,gS,hS,hl8,hat⟩:=T.ex
 refine F.ok scDist (fun vs H Q E h=>?_) (fun cdv A outer s H vs Q E hr h=>?_)
 ·obtain ⟨fo,fm,ks,g,rfl,_⟩:=h
  rfl
 ·obtain ⟨fo,fm,ks,g,rfl,⟨hw1,hw6,hh6⟩,hfm,hg,hks,k⟩:=h
  have nd:=scDist.nd
  have hu:=hu_of hr
  refine ⟨_,pss_cons (ps_set (i:=4) nd rfl (Or.inl rfl) (pe_disp (pps_cons (pv 3) pe_int pps_nil) rfl rfl (by simp) (by decide)))
   (pss_cons (ps_set (i:=5) nd rfl (Or.inl rfl) (pe_lst (pa_cons (pv 3) pa_nil)))
   (pss_cons (ps_set (i:=6) nd rfl (Or.inl rfl) pe_int)
   (pss_cons (ps_while PassesOwn.never (pt_cmpR op_lt (pv 6) (pe_callB call_len_seq rfl B.len PySem.boot_len (pa_cons (pv 5) pa_nil)) (nomark _))
    (pss_cons (ps_set (i:=7) nd rfl (Or.inl rfl) (pe_ix ix_list (pv 5) (pv 6) (fun _ _=>rfl)))
    (pss_cons (ps_aug (i:=6) nd rfl (Or.inl rfl) pe_int ip_add)
    (pss_one (ps_for PassesOwn.never rfl (pi_range1 rfl B.range (pa_cons (pe_callB call_len_seq rfl B.len PySem.boot_len (pa_cons (pe_glob (v:=.ref aS) rfl gS rfl) pa_nil)) pa_nil)) (pg_name (i:=8) nd rfl (Or.inl rfl))
     (pss_cons (ps_set (i:=9) nd rfl (Or.inl rfl) (pe_call G1 hr rfl g1 k1 b1 .nil pass0 (pa_cons (pv 0) (pa_cons (pv 1) (pa_cons (pv 7) (pa_cons (pv 8) pa_nil))))))
     (pss_one (ps_if (pw_and (pt_cmp (pc_dinN hu (pv 9) (pv 2))) (pw_and1 (pt_cmp (pc_dnotinN hu (pv 9) (pv 4))))).pt
      (pss_cons (ps_dput hu (pv 4) (pv 9) (pe_op op_add (pe_dget hu (pv 4) (pv 7) (fun _ _=>rfl)) pe_int) rfl)
      (pss_one (ps_expr (pe_bm PySem.F.plainAttrs_list PySem.F.slot_list_append PySem.F.type_list_append mt_append (pv 5) (pa_cons (pv 9) pa_nil)))))
      pss_nil))))))))
   (pss_one (ps_ret (pv 4)))))),?_⟩
  intro d hd
  refine ⟨_,rfl,upd_same,[(Sum.inl (g:Int),.int 0)],rfl,(by show 1≤15; decide),?_⟩
  rw [upd_upd]
  refine ⟨_,rfl,(by show 1≤sizeLine; decide),fun l hl=>?_⟩
  have S1:Same H (upd H d (.dK (fkv [(g,0)]))):=fun b o e=>by rw [upd_ne (ne_of_none e hd)]; exact e
  have nl:d ≠ l:=ne_of_none (o:=.dK (fkv [(g,0)])) upd_same hl
  have nHl:H l=Option.none:=S1.free hl
  have S2:Same H (upd (upd H d (.dK (fkv [(g,0)]))) l (.lst (ofs ([(g,0)].map (fun p:Nat × Nat=>p.1))))):=fun b o e=>by rw [upd_ne (ne_of_none (S1 b o e) hl)]; exact S1 b o e
  have hb:∀ c,okD ks c=true→c < fo.w * fo.h:=fun c hc=>hks c (of_decide_eq_true hc)
  have hwh:fo.w * fo.h≤6 * 6:=Nat.mul_le_mul hw6 hh6
  have hl8':(as.map V.ref).length=8:=by rw [List.length_map,hl8]
  refine while_x (fun σ H'=>∃ (rs:List (Nat × Nat)) (i:Nat) (v7 v8 v9:Option V),σ=[some (.int fo.w),some (.int fo.h),some (.ref fm),some (.int g),some (.ref d),some (.ref l),some (.int (i:Nat)),v7,v8,v9]∧Same H H'∧
    H' d=some (.dK (fkv rs))∧H' l=some (.lst (ofs (rs.map (fun p:Nat × Nat=>p.1))))∧Bf fo (okD ks) g rs∧i≤rs.length∧(∀ j,j < i→∀ p,rs[j]?=some p→Cl fo (okD ks) rs p 8)∧(∀ p,rs[i]?=some p→∀ q ∈ rs,q.2≤p.2 + 1))
   (fun σ _=>37 - (intAt 6 σ).toNat)
   ⟨[(g,0)],0,none,none,none,rfl,S2,by rw [upd_ne nl,upd_same]; rfl,upd_same,Bf.start (decide_eq_true hg),by simp,fun j hj=>by omega,fun p hp q hq=>by
    have e:(g,0)=p:=Option.some.inj hp
    rw [List.mem_singleton] at hq
    subst e hq
    exact Nat.zero_le _⟩ ?_
  rintro σ H1 ⟨rs,i,v7,v8,v9,rfl,S3,hd1,hl1,BF,hi,hcl,hmx⟩
  have hlen:rs.length≤36:=by
   have q:=nodup_le (fo.w * fo.h) (rs.map (·.1)) BF.nd fun x hx=>by
    obtain ⟨p,hp,rfl⟩:=List.mem_map.mp hx
    exact hb _ (BF.ok1 p hp)
   rw [List.length_map] at q
   omega
  refine ⟨_,rfl,_,rfl,l,_,rfl,.inl (SqL.of hl1),_,_,rfl,rfl,_,rfl,ite2 (fun ht=>?_) (fun ht=>?_)⟩
  ·have hilt:i < rs.length:=by
    have:=of_decide_eq_true ht
    rw [ofs_len,List.length_map] at this
    omega
   obtain ⟨⟨c,D⟩,hcD⟩:∃ p,rs[i]?=some p:=⟨_,List.getElem?_eq_getElem hilt⟩
   have hmem:(c,D) ∈ rs:=List.mem_of_getElem? hcD
   have hcwh:c < fo.w * fo.h:=hb _ (BF.ok1 _ hmem)
   refine ⟨fun σ' H'=>(∃ (rs:List (Nat × Nat)) (v7 v8 v9:Option V),σ'=[some (.int fo.w),some (.int fo.h),some (.ref fm),some (.int g),some (.ref d),some (.ref l),some (.int ((i + 1:Nat):Int)),v7,v8,v9]∧Same H H'∧
    H' d=some (.dK (fkv rs))∧H' l=some (.lst (ofs (rs.map (fun p:Nat × Nat=>p.1))))∧Bf fo (okD ks) g rs∧i + 1≤rs.length∧(∀ j,j < i + 1→∀ p,rs[j]?=some p→Cl fo (okD ks) rs p 8)∧(∀ p,rs[i + 1]?=some p→∀ q ∈ rs,q.2≤p.2 + 1)),?_,?_⟩
   ·rintro σ' H' ⟨rs',w7,w8,w9,rfl,a1,a2,a3,a4,a5,a6,a7⟩
    refine ⟨_,?_,rfl,rs',i + 1,w7,w8,w9,rfl,a1,a2,a3,a4,a5,a6,a7⟩
    show 37 - ((i + 1:Nat):Int).toNat < 37 - ((i:Nat):Int).toNat
    rw [Int.toNat_natCast,Int.toNat_natCast]
    omega
   refine ⟨_,rfl,_,rfl,l,_,_,_,rfl,rfl,SqL.of hl1,atI_nat (v:=V.int (c:Nat)) (by unfold ofs; rw [List.getElem?_map,List.getElem?_map,hcD]; rfl),?_⟩
   refine ⟨_,rfl,_,_,rfl,rfl,?_⟩
   refine ⟨aS,_,rfl,.inr (hS _),_,rfl,(by rw [hl8']; decide),(by rw [hl8']; decide),?_⟩
   rw [hl8']
   have ei:((i:Nat):Int) + 1=((i + 1:Nat):Int):=by omega
   refine for_range (n:=8) (fun dd σ H'=>∃ (rs:List (Nat × Nat)) (v8 v9:Option V),σ=[some (.int fo.w),some (.int fo.h),some (.ref fm),some (.int g),some (.ref d),some (.ref l),some (.int ((i:Nat) + 1:Int)),some (.int (c:Nat)),v8,v9]∧Same H H'∧
    H' d=some (.dK (fkv rs))∧H' l=some (.lst (ofs (rs.map (fun p:Nat × Nat=>p.1))))∧Bf fo (okD ks) g rs∧rs[i]?=some (c,D)∧(∀ j,j < i→∀ p,rs[j]?=some p→Cl fo (okD ks) rs p 8)∧Cl fo (okD ks) rs (c,D) dd∧∀ q ∈ rs,q.2≤D + 1)
    ⟨rs,v8,v9,rfl,S3,hd1,hl1,BF,hcD,hcl,fun d' h=>by omega,hmx _ hcD⟩ ?_ ?_
   ·rintro dd σ H2 hdd ⟨rs,v8,v9,rfl,S4,hd2,hl2,BF,hcD,hcl,hcd,hmx⟩
    have hmem:(c,D) ∈ rs:=List.mem_of_getElem? hcD
    have hfm2:=S4 _ _ hfm
    have e0:(0:Int) + (dd:Int)=(dd:Int):=by omega
    rw [e0]
    refine ⟨_,rfl,_,rfl,_,rfl,_,rfl,fo,c,dd,rfl,⟨hw1,hw6,hh6,hcwh,hdd⟩,?_⟩
    have skip:∀ w9:V,(∀ q,Vbexai.toward fo c dd=some q→okD ks q=true→∃ m,m≤D + 1∧(q,m) ∈ rs)→∃ (rs:List (Nat × Nat)) (v8 v9:Option V),[some (V.int fo.w),some (.int fo.h),some (.ref fm),some (.int g),some (.ref d),some (.ref l),some (.int ((i:Nat) + 1:Int)),some (.int (c:Nat)),some (.int (dd:Nat)),some w9]=[some (.int fo.w),some (.int fo.h),some (.ref fm),some (.int g),some (.ref d),some (.ref l),some (.int ((i:Nat) + 1:Int)),some (.int (c:Nat)),v8,v9]∧Same H H2∧
      H2 d=some (.dK (fkv rs))∧H2 l=some (.lst (ofs (rs.map (fun p:Nat × Nat=>p.1))))∧Bf fo (okD ks) g rs∧rs[i]?=some (c,D)∧(∀ j,j < i→∀ p,rs[j]?=some p→Cl fo (okD ks) rs p 8)∧Cl fo (okD ks) rs (c,D) (dd + 1)∧∀ q ∈ rs,q.2≤D + 1:=fun w9 hq=>
     ⟨rs,_,_,rfl,S4,hd2,hl2,BF,hcD,hcl,fun d' h1 q h2 h3=>by
      by_cases e:d'=dd
      ·subst e; exact hq q h2 h3
      ·exact hcd d' (by omega) q h2 h3,hmx⟩
    cases htw:Vbexai.toward fo c dd with
    |none=>
     refine ⟨_,rfl,_,rfl,fm,Option.none,rfl,.inr ⟨rfl,rfl,_,hfm2⟩,_,rfl,iteF (iteF ?_)⟩
     exact skip .non fun q h=>by rw [htw] at h; cases h
    |some q=>
     refine ⟨_,rfl,_,rfl,fm,_,rfl,.inl (DGet.k (k:=Sum.inl (q:Int)) hfm2),_,rfl,?_⟩
     rw [tr_val]
     refine ite2 (fun hq=>?_) (fun hq=>?_)
     ·refine ⟨_,rfl,_,rfl,d,_,rfl,.inl (DGet.k (k:=Sum.inl (q:Int)) hd2),_,rfl,?_⟩
      rw [fkv_val]
      cases hfar:far rs q with
      |some m=>
       refine iteF ?_
       have hm:=(far_iff BF.nd).mp hfar
       exact skip (.int (q:Nat)) fun q' h _=>by
        rw [htw] at h
        cases h
        exact ⟨m,hmx _ hm,hm⟩
      |none=>
       refine iteT ?_
       have hfc:=(far_iff BF.nd).mpr hmem
       have hval:=DGet.k (k:=Sum.inl (c:Int)) hd2
       rw [fkv_val,hfc] at hval
       have hlen2:rs.length≤36:=by
        have q:=nodup_le (fo.w * fo.h) (rs.map (·.1)) BF.nd fun x hx=>by
         obtain ⟨p,hp,rfl⟩:=List.mem_map.mp hx
         exact hb _ (BF.ok1 p hp)
        rw [List.length_map] at q
        omega
       refine ⟨_,rfl,_,rfl,d,_,rfl,hval,_,_,rfl,rfl,_,rfl,_,rfl,d,_,rfl,DPut.k (k:=Sum.inl (q:Int)) hd2 (by unfold fkv; rw [List.length_map]; exact nsize (by omega)),?_⟩
       have eD:(D:Int) + 1=((D + 1:Nat):Int):=by omega
       have hput:putK (fkv rs) (Sum.inl (q:Int)) (V.int ((D:Int) + 1))=fkv (rs ++ [(q,D + 1)]):=by rw [eD]; exact fkv_put rs q (D + 1) hfar
       have nld:l ≠ d:=fun e=>nl e.symm
       have hl3:(upd H2 d (.dK (putK (fkv rs) (Sum.inl (q:Int)) (V.int ((D:Int) + 1))))) l=some (.lst (ofs (rs.map (fun p:Nat × Nat=>p.1)))):=by rw [upd_ne nld]; exact hl2
       refine ⟨_,rfl,.inl ⟨rfl,_,SqL.of hl3⟩,_,rfl,l,_,_,rfl,rfl,hl3,(by rw [ofs_len,List.length_map]; exact nsize (by omega)),?_⟩
       have hnot:q ∉ rs.map (·.1):=far_none.mp hfar
       refine ⟨rs ++ [(q,D + 1)],_,_,rfl,fun b o e=>?_,?_,?_,BF.add hb hmem htw hq hnot hmx,?_,fun j hj p hp=>?_,fun d' h1 q' h2 h3=>?_,fun p hp=>?_⟩
       ·rw [upd_ne (fun z=>by rw [z,nHl] at e; cases e),upd_ne (fun z=>by rw [z,hd] at e; cases e)]
        exact S4 b o e
       ·rw [upd_ne nl,upd_same,hput]
       ·rw [upd_same]
        unfold ofs
        rw [List.map_append,List.map_append]
        rfl
       ·rw [List.getElem?_append_left (List.getElem?_eq_some_iff.mp hcD).1]; exact hcD
       ·have hjl:j < rs.length:=by have:=(List.getElem?_eq_some_iff.mp hcD).1; omega
        rw [List.getElem?_append_left hjl] at hp
        exact (hcl j hj p hp).mono _
       ·by_cases e:d'=dd
        ·subst e
         have h2':Vbexai.toward fo c d'=some q':=h2
         rw [htw] at h2'
         cases h2'
         exact ⟨D + 1,Nat.le_refl _,by simp⟩
        ·exact (hcd.mono _) d' (by omega) q' h2 h3
       ·rw [List.mem_append,List.mem_singleton] at hp
        rcases hp with hp | rfl
        ·exact hmx p hp
        ·exact Nat.le_refl _
     ·refine iteF ?_
      exact skip (.int (q:Nat)) fun q' h h3=>by
       rw [htw] at h
       cases h
       exact absurd h3 hq
   ·rintro σ H2 ⟨rs,v8,v9,rfl,S4,hd2,hl2,BF,hcD,hcl,hcd,hmx⟩
    refine ⟨rs,_,v8,v9,rfl,S4,hd2,hl2,BF,(List.getElem?_eq_some_iff.mp hcD).1,fun j hj p hp=>?_,fun p hp q hq=>?_⟩
    ·by_cases e:j=i
     ·subst e
      rw [hcD] at hp
      cases hp
      exact hcd
     ·exact hcl j (by omega) p hp
    ·have h1:=hmx q hq
     have h2:=BF.sorted hcD hp (by omega)
     have h3:D≤p.2:=h2
     omega
  ·have hieq:i=rs.length:=by
    have h1:¬ ((i:Int) < ((ofs (rs.map (fun p:Nat × Nat=>p.1))).length:Int)):=fun z=>ht (decide_eq_true z)
    rw [ofs_len,List.length_map] at h1
    omega
   refine ⟨_,rfl,k H1 d rs S3 hd hd1 (BF.done hb fun p hp=>?_)⟩
   obtain ⟨j,hj⟩:=List.mem_iff_getElem?.mp hp
   exact hcl j (by have:=(List.getElem?_eq_some_iff.mp hj).1; omega) p hj
end
end Rp
namespace Rp
open PySem PySem.Spec PyProof.Rows L2
theorem find_at {p:Nat→Bool} {n d:Nat} (hd:d < n) (h:p d=true) (hn:∀ d',d' < d→p d'=false):(List.range n).find? p=some d:=by
 cases e:(List.range n).find? p with
 |none=>exact absurd h (List.find?_eq_none.mp e d (List.mem_range.mpr hd))
 |some x=>
  have hx:p x=true:=List.find?_some e
  rcases Nat.lt_trichotomy x d with hlt | heq | hgt
  ·rw [hn x hlt] at hx; cases hx
  ·rw [heq]
  ·exfalso
   obtain ⟨_,as,bs,hab,hno⟩:=List.find?_eq_some_iff_append.mp e
   have hlen:as.length=x:=by
    have q1:(List.range n)[as.length]?=some x:=by
     rw [hab,List.getElem?_append_right (Nat.le_refl _)]; simp
    rw [List.getElem?_range] at q1
    ·exact Option.some.inj q1
    ·have:=congrArg List.length hab
     rw [List.length_range,List.length_append,List.length_cons] at this
     omega
   have q2:as[d]?=some d:=by
    have q3:(List.range n)[d]?=some d:=List.getElem?_range hd
    rw [hab,List.getElem?_append_left (by omega)] at q3
    exact q3
   have:=hno d (List.mem_of_getElem? q2)
   rw [h] at this
   exact absurd this (by decide)
theorem find_no {p:Nat→Bool} {n:Nat} (hn:∀ d',d' < n→p d'=false):(List.range n).find? p=none:=by
 rw [List.find?_eq_none]
 intro x hx
 rw [hn x (List.mem_range.mp hx)]
 decide
section
variable {P:Program} {w:World} {K:PySem.W.Frag} {mg:Str→Option Value} {base:Heap}
abbrev sLd:Stmt:=top 38
def spLd:Sp:=fun vs H Q _=>∃ (f:Vbexai.Form) (d:Addr) (rs:List (Nat × Nat)) (c n:Nat),vs=[.int f.w,.int f.h,.ref d,.int c]∧(1≤f.w∧f.w≤6∧f.h≤6∧c < f.w * f.h)∧H d=some (.dK (fkv rs))∧far rs c=some n∧Q (nbV ((List.range 8).find? (nearer f (far rs) c))) H
theorem scLd:FnScope ["width","height","far","cell","direction","other"] ["width","height","far","cell"] (defScope sLd):=⟨rfl,rfl,rfl,by decide +kernel,rfl,by decide +kernel,by decide +kernel⟩
theorem ok_ld {f f1:Addr} {fd fd1:FuncData} (F:Fun K "least_direction" "least_direction" sLd f fd) (B:Blt mg) (T:StepsOk K mg) (G1:FnOk P w K mg base CX0 1 f1 fd1 ["width","height","cell","direction"] spNb) (k1:PySem.W.keepIn K (.ref f1)=true)
  (b1:Binds K fd1 ["width","height","cell","direction"] []) (g1:mg "neighbour"=some (.ref f1)) :
  FnOk P w K mg base CX0 2 f fd ["width","height","far","cell"] spLd:=by
 obtain ⟨aS,as,gS,hS,hl8,hat⟩:=T.ex
 refine F.ok scLd (fun vs H Q E h=>?_) (fun cdv A outer s H vs Q E hr h=>?_)
 ·obtain ⟨fo,d,rs,c,n,rfl,_⟩:=h
  rfl
 ·obtain ⟨fo,d,rs,c,n,rfl,⟨hw1,hw6,hh6,hc⟩,hd,hfc,k⟩:=h
  have nd:=scLd.nd
  have hu:=hu_of hr
  refine ⟨_,pss_cons (ps_for PassesOwn.never rfl (pi_range1 rfl B.range (pa_cons (pe_callB call_len_seq rfl B.len PySem.boot_len (pa_cons (pe_glob (v:=.ref aS) rfl gS rfl) pa_nil)) pa_nil)) (pg_name (i:=4) nd rfl (Or.inl rfl))
    (pss_cons (ps_set (i:=5) nd rfl (Or.inl rfl) (pe_call G1 hr rfl g1 k1 b1 .nil pass0 (pa_cons (pv 0) (pa_cons (pv 1) (pa_cons (pv 3) (pa_cons (pv 4) pa_nil))))))
    (pss_one (ps_if (pw_and (pt_cmp (pc_dinN hu (pv 5) (pv 2))) (pw_and1 (pt_cmpR op_lt (pe_dget hu (pv 2) (pv 5) (fun _ _=>rfl)) (pe_dget hu (pv 2) (pv 3) (fun _ _=>rfl)) (nomark _)))).pt
     (pss_one (ps_ret (pv 4))) pss_nil))))
   (pss_one (ps_ret pe_non)),?_⟩
  have hl8':(as.map V.ref).length=8:=by rw [List.length_map,hl8]
  refine ⟨aS,_,rfl,.inr (hS _),_,rfl,(by rw [hl8']; decide),(by rw [hl8']; decide),?_⟩
  rw [hl8']
  refine for_range (n:=8) (fun i σ H'=>(∃ v4 v5:Option V,σ=[some (.int fo.w),some (.int fo.h),some (.ref d),some (.int c),v4,v5])∧H'=H∧∀ d',d' < i→nearer fo (far rs) c d'=false)
   ⟨⟨none,none,rfl⟩,rfl,fun d' h=>by omega⟩ ?_ ?_
  ·rintro i σ H' hi ⟨⟨v4,v5,rfl⟩,rfl,hno⟩
   have e0:(0:Int) + (i:Int)=(i:Int):=by omega
   rw [e0]
   refine ⟨_,rfl,_,rfl,_,rfl,_,rfl,fo,c,i,rfl,⟨hw1,hw6,hh6,hc,hi⟩,?_⟩
   have go:∀ v:V,nearer fo (far rs) c i=false→(∃ v4 v5:Option V,[some (V.int fo.w),some (.int fo.h),some (.ref d),some (.int c),some (.int (i:Nat)),some v]=[some (.int fo.w),some (.int fo.h),some (.ref d),some (.int c),v4,v5])∧H'=H'∧∀ d',d' < i + 1→nearer fo (far rs) c d'=false:=fun v hn=>
    ⟨⟨_,_,rfl⟩,rfl,fun d' hd'=>by
     by_cases e:d'=i
     ·subst e; exact hn
     ·exact hno d' (by omega)⟩
   cases htw:Vbexai.toward fo c i with
   |none=>
    refine ⟨_,rfl,_,rfl,d,Option.none,rfl,.inr ⟨rfl,rfl,_,hd⟩,_,rfl,iteF (iteF ?_)⟩
    exact go .non (by unfold nearer; rw [htw])
   |some q=>
    refine ⟨_,rfl,_,rfl,d,_,rfl,.inl (DGet.k (k:=Sum.inl (q:Int)) hd),_,rfl,?_⟩
    rw [fkv_val]
    cases hfq:far rs q with
    |none=>
     refine iteF (iteF ?_)
     exact go (.int (q:Nat)) (by unfold nearer; rw [htw]; dsimp only; rw [hfq])
    |some m=>
     have g1:=DGet.k (k:=Sum.inl (q:Int)) hd
     rw [fkv_val,hfq] at g1
     have g2:=DGet.k (k:=Sum.inl (c:Int)) hd
     rw [fkv_val,hfc] at g2
     have en:nearer fo (far rs) c i=decide (m < n):=by unfold nearer; rw [htw]; dsimp only; rw [hfq]; dsimp only; rw [hfc]
     refine iteT ⟨_,rfl,_,rfl,d,_,rfl,g1,_,rfl,_,rfl,d,_,rfl,g2,_,_,rfl,rfl,_,rfl,ite2 (fun ht=>?_) (fun ht=>?_)⟩
     ·have hmn:m < n:=by have:=of_decide_eq_true ht; omega
      refine ⟨_,rfl,?_⟩
      rw [find_at hi (by rw [en]; exact decide_eq_true hmn) hno] at k
      exact k
     ·have hmn:¬ m < n:=fun z=>ht (decide_eq_true (by omega))
      exact go (.int (q:Nat)) (by rw [en]; exact decide_eq_false hmn)
  ·rintro σ H' ⟨⟨v4,v5,rfl⟩,rfl,hno⟩
   rw [find_no hno] at k
   exact k
abbrev sSw:Stmt:=top 39
def spSw:Sp:=fun vs H Q _=>∃ (f:Vbexai.Form) (fm:Addr) (ks:List Nat) (a b:Nat),vs=[.int f.w,.int f.h,.ref fm,.int a,.int b]∧(1≤f.w∧f.w≤6∧f.h≤6)∧H fm=some (.dK (tr ks))∧(∀ c ∈ ks,c < f.w * f.h)∧
 (∀ H',Same H H'→Vbexai.wayTo f (okD ks) a b=none→Q .non H')∧(∀ (H':Hp) (p:Addr) (l:List Nat),Same H H'→H p=none→H' p=some (.lst (ofs l))→Vbexai.wayTo f (okD ks) a b=some l→l.length≤36→Q (.ref p) H')
theorem scSw:FnScope ["width","height","firm","start","goal","far","directions","cell","direction"] ["width","height","firm","start","goal"] (defScope sSw):=⟨rfl,rfl,rfl,by decide +kernel,rfl,by decide +kernel,by decide +kernel⟩
theorem ok_sw {f f1 f2 f3:Addr} {fd fd1 fd2 fd3:FuncData} (F:Fun K "shortest_way" "shortest_way" sSw f fd)
  (G1:FnOk P w K mg base CX0 1 f1 fd1 ["width","height","cell","direction"] spNb) (k1:PySem.W.keepIn K (.ref f1)=true) (b1:Binds K fd1 ["width","height","cell","direction"] []) (g1:mg "neighbour"=some (.ref f1))
  (G2:FnOk P w K mg base CX0 2 f2 fd2 ["width","height","firm","goal"] spDist) (k2:PySem.W.keepIn K (.ref f2)=true) (b2:Binds K fd2 ["width","height","firm","goal"] []) (g2:mg "distances"=some (.ref f2))
  (G3:FnOk P w K mg base CX0 2 f3 fd3 ["width","height","far","cell"] spLd) (k3:PySem.W.keepIn K (.ref f3)=true) (b3:Binds K fd3 ["width","height","far","cell"] []) (g3:mg "least_direction"=some (.ref f3)) :
  FnOk P w K mg base CX0 3 f fd ["width","height","firm","start","goal"] spSw:=by
 refine F.ok scSw (fun vs H Q E h=>?_) (fun cdv A outer s H vs Q E hr h=>?_)
 ·obtain ⟨fo,fm,ks,a,b,rfl,_⟩:=h
  rfl
 ·obtain ⟨fo,fm,ks,a,b,rfl,⟨hw1,hw6,hh6⟩,hfm,hks,kN,kS⟩:=h
  have nd:=scSw.nd
  have hu:=hu_of hr
  have hr1:Room 1 _:=hr.mono (by decide)
  refine ⟨_,pss_cons (ps_if (pw_or (pt_cmp (pc_dnotin hu (pv 3) (pv 2))) (pw_or1 (pt_cmp (pc_dnotin hu (pv 4) (pv 2))))).pt (pss_one (ps_ret pe_non)) pss_nil)
   (pss_cons (ps_set (i:=5) nd rfl (Or.inl rfl) (pe_call G2 hr rfl g2 k2 b2 .nil pass0 (pa_cons (pv 0) (pa_cons (pv 1) (pa_cons (pv 2) (pa_cons (pv 4) pa_nil))))))
   (pss_cons (ps_if (pt_cmp (pc_dnotin hu (pv 3) (pv 5))) (pss_one (ps_ret pe_non)) pss_nil)
   (pss_cons (ps_set (i:=6) nd rfl (Or.inl rfl) (pe_lst pa_nil))
   (pss_cons (ps_set (i:=7) nd rfl (Or.inl rfl) (pv 3))
   (pss_cons (ps_while PassesOwn.never (pt_cmpR op_ne (pv 7) (pv 4) (nomark _))
    (pss_cons (ps_set (i:=8) nd rfl (Or.inl rfl) (pe_call G3 hr rfl g3 k3 b3 .nil pass0 (pa_cons (pv 0) (pa_cons (pv 1) (pa_cons (pv 5) (pa_cons (pv 7) pa_nil))))))
    (pss_cons (ps_expr (pe_bm PySem.F.plainAttrs_list PySem.F.slot_list_append PySem.F.type_list_append mt_append (pv 6) (pa_cons (pv 8) pa_nil)))
    (pss_one (ps_set (i:=7) nd rfl (Or.inl rfl) (pe_call G1 hr1 rfl g1 k1 b1 .nil pass0 (pa_cons (pv 0) (pa_cons (pv 1) (pa_cons (pv 7) (pa_cons (pv 8) pa_nil))))))))))
   (pss_one (ps_ret (pv 6)))))))),?_⟩
  have hb:∀ c,okD ks c=true→c < fo.w * fo.h:=fun c hc=>hks c (of_decide_eq_true hc)
  refine ⟨_,rfl,_,rfl,fm,_,rfl,DGet.k (k:=Sum.inl (a:Int)) hfm,_,rfl,?_⟩
  rw [tr_val]
  refine ite2 (fun h1=>iteT (kN H (Same.refl H) (wayTo_not hb (.inl (by unfold okD; simpa using h1))))) (fun h1=>?_)
  refine ⟨_,rfl,_,rfl,fm,_,rfl,DGet.k (k:=Sum.inl (b:Int)) hfm,_,rfl,?_⟩
  rw [tr_val]
  refine ite2 (fun h2=>kN H (Same.refl H) (wayTo_not hb (.inr (by unfold okD; simpa using h2)))) (fun h2=>?_)
  have ha:okD ks a=true:=by unfold okD; simpa using h1
  have hg:b ∈ ks:=by simpa using h2
  refine ⟨_,rfl,_,rfl,_,rfl,_,rfl,fo,fm,ks,b,rfl,⟨hw1,hw6,hh6⟩,hfm,hg,hks,fun H1 d rs S1 nd1 hd FO=>?_⟩
  have hway:=FO.wayTo hb ha
  refine ⟨_,rfl,_,rfl,d,_,rfl,DGet.k (k:=Sum.inl (a:Int)) hd,_,rfl,?_⟩
  rw [fkv_val]
  cases hfa:far rs a with
  |none=>
   refine iteT (kN H1 S1 ?_)
   rw [hway,hfa]; rfl
  |some n0=>
   refine iteF ⟨(by show 0≤sizeLine; decide),fun l hl=>⟨_,rfl,?_⟩⟩
   have nHl:H l=Option.none:=S1.free hl
   have ndl:d ≠ l:=ne_of_none hd hl
   rw [hfa,Option.map_some] at hway
   have hbest:=FO.best n0 a hfa
   have hsm:=FO.small hb hfa
   have hwh:fo.w * fo.h≤6 * 6:=Nat.mul_le_mul hw6 hh6
   have S2:Same H (upd H1 l (.lst [])):=fun b o e=>by rw [upd_ne (ne_of_none (S1 b o e) hl)]; exact S1 b o e
   refine while_x (fun σ H'=>∃ (c n:Nat) (ds:List Nat) (v8:Option V),σ=[some (.int fo.w),some (.int fo.h),some (.ref fm),some (.int a),some (.int b),some (.ref d),some (.ref l),some (.int (c:Nat)),v8]∧Same H H'∧H' d=some (.dK (fkv rs))∧H' l=some (.lst (ofs ds))∧far rs c=some n∧ds.length + n=n0∧ds ++ gway fo (far rs) n c=gway fo (far rs) n0 a)
    (fun σ _=>match far rs (intAt 7 σ).toNat with | some n=>n | _=>0)
    ⟨a,n0,[],none,rfl,S2,by rw [upd_ne ndl]; exact hd,upd_same,hfa,by simp,rfl⟩ ?_
   rintro σ H2 ⟨c,n,ds,v8,rfl,S3,hd2,hl2,hfc,hlen,hsum⟩
   have hcok:=FO.ok1 _ _ hfc
   have hcwh:=hb c hcok
   refine ⟨_,rfl,_,rfl,rfl,_,rfl,ite2 (fun ht=>?_) (fun ht=>?_)⟩
   ·have hne:c ≠ b:=fun e=>by subst e; simp at ht
    cases n with
    |zero=>exact absurd (FO.z c hfc) hne
    |succ n=>
     obtain ⟨dir,q,p1,p2,p3,p4,_⟩:=FO.first hfc
     have hd8:=toward_lt p2
     refine ⟨fun σ' H'=>∃ (v8:Option V),σ'=[some (.int fo.w),some (.int fo.h),some (.ref fm),some (.int a),some (.int b),some (.ref d),some (.ref l),some (.int (q:Nat)),v8]∧Same H H'∧H' d=some (.dK (fkv rs))∧H' l=some (.lst (ofs (ds ++ [dir]))),?_,?_⟩
     ·rintro σ' H' ⟨w8,rfl,a1,a2,a3⟩
      refine ⟨_,?_,rfl,q,n,ds ++ [dir],w8,rfl,a1,a2,a3,p3,by rw [List.length_append,List.length_singleton]; omega,?_⟩
      ·show (match far rs ((q:Nat):Int).toNat with | some n=>n | _=>0) < (match far rs ((c:Nat):Int).toNat with | some n=>n | _=>0)
       rw [Int.toNat_natCast,Int.toNat_natCast,hfc,p3]
       exact Nat.lt_succ_self _
      ·rw [← hsum,List.append_assoc]
       congr 1
       show _=(match (List.range 8).find? (nearer fo (far rs) c) with | none=>[] | some d=>match Vbexai.toward fo c d with | none=>[] | some q=>d::gway fo (far rs) n q)
       rw [p1]
       dsimp only
       rw [p2]
       rfl
     refine ⟨_,rfl,_,rfl,_,rfl,_,rfl,fo,d,rs,c,n + 1,rfl,⟨hw1,hw6,hh6,hcwh⟩,hd2,hfc,?_⟩
     rw [p1]
     refine ⟨_,rfl,.inl ⟨rfl,_,SqL.of hl2⟩,_,rfl,l,_,_,rfl,rfl,hl2,(by rw [ofs_len]; exact nsize (by omega)),?_⟩
     refine ⟨_,rfl,_,rfl,_,rfl,_,rfl,fo,c,dir,rfl,⟨hw1,hw6,hh6,hcwh,hd8⟩,?_⟩
     rw [p2]
     refine ⟨_,rfl,fun b' o e=>?_,?_,?_⟩
     ·rw [upd_ne (fun z=>by rw [z,nHl] at e; cases e)]; exact S3 b' o e
     ·rw [upd_ne ndl]; exact hd2
     ·rw [upd_same]
      unfold ofs
      rw [List.map_append]; rfl
   ·have hce:c=b:=by
     have:¬ (!decide (V.int (c:Int)=V.int (b:Int)))=true:=ht
     have h3:decide (V.int (c:Int)=V.int (b:Int))=true:=by
      cases e:decide (V.int (c:Int)=V.int (b:Int)) with
      |true=>rfl
      |false=>rw [e] at this; exact absurd rfl this
     have h4:=V.int.inj (of_decide_eq_true h3)
     omega
    subst hce
    rw [FO.g0] at hfc
    cases hfc
    refine ⟨_,rfl,?_⟩
    have hds:ds=gway fo (far rs) n0 a:=by
     have:ds ++ gway fo (far rs) 0 c=ds:=List.append_nil ds
     rw [← hsum,this]
    refine kS H2 l ds S3 nHl hl2 (by rw [hway,hds]) (by omega)
end
end Rp
namespace Rp
open PySem PySem.Spec PyProof.Rows L2
section
variable {P:Program} {w:World} {K:PySem.W.Frag} {mg:Str→Option Value} {base:Heap}
abbrev sBc:Stmt:=top 10
def pcs (L:Nat):List Nat:=(List.range (2 ^ L)).map (pcL L)
def spBc:Sp:=fun vs H Q _=>∃ L:Nat,vs=[.int L]∧L≤12∧
 ∀ (H':Hp) (p:Addr),Same H H'→H p=none→H' p=some (.lst (ofs (pcs L)))→Q (.ref p) H'
theorem scBc:FnScope ["size","counts","number"] ["size"] (defScope sBc):=⟨rfl,rfl,rfl,by decide +kernel,rfl,by decide +kernel,by decide +kernel⟩
theorem pow_12 {L:Nat} (h:L≤12):2 ^ L≤4096:=Nat.pow_le_pow_right (show 2 > 0 by decide) h
theorem ok_bc {f:Addr} {fd:FuncData} (F:Fun K "bit_counts" "bit_counts" sBc f fd) (B:Blt mg):FnOk P w K mg base CX0 1 f fd ["size"] spBc:=by
 refine F.ok scBc (fun vs H Q E h=>?_) (fun cdv A outer s H vs Q E hr h=>?_)
 ·obtain ⟨L,rfl,_⟩:=h
  rfl
 ·obtain ⟨L,rfl,hL,k⟩:=h
  have nd:=scBc.nd
  refine ⟨_,pss_cons (ps_set (i:=1) nd rfl (Or.inl rfl) (pe_lst (pa_cons pe_int pa_nil)))
   (pss_cons (ps_for PassesOwn.never rfl (pi_range2 rfl B.range (pa_cons pe_int (pa_cons (pe_op op_shl pe_int (pv 0)) pa_nil))) (pg_name (i:=2) nd rfl (Or.inl rfl))
    (pss_one (ps_expr (pe_bm PySem.F.plainAttrs_list PySem.F.slot_list_append PySem.F.type_list_append mt_append (pv 1)
     (pa_cons (pe_op op_add (pe_ix ix_list (pv 1) (pe_op op_shr (pv 2) pe_int) (fun _ _=>rfl)) (pe_op op_and (pv 2) pe_int)) pa_nil)))))
   (pss_one (ps_ret (pv 1)))),?_⟩
  have hp:=pow_12 hL
  have hp0:=Nat.two_pow_pos L
  refine ⟨(by show 1≤sizeLine; decide),fun l hl=>⟨_,rfl,_,_,rfl,rfl,⟨by omega,by omega,by decide⟩,_,_,rfl,?_⟩⟩
  rw [Int.toNat_natCast,pow_nat]
  refine ⟨⟨by omega,by omega,by omega,by omega⟩,?_⟩
  have e0:(((2 ^ L:Nat):Int) - 1).toNat=2 ^ L - 1:=by omega
  rw [e0]
  refine for_range (n:=2 ^ L - 1) (fun i σ H'=>∃ v2:Option V,σ=[some (.int L),some (.ref l),v2]∧Same H H'∧H' l=some (.lst (ofs ((List.range (1 + i)).map (pcL L)))))
   ⟨none,rfl,(Same.refl H).new hl,?_⟩ ?_ ?_
  ·rw [upd_same]
   show some (HO.lst [V.int 0])=some (HO.lst [V.int ((pcL L 0:Nat):Int)])
   rw [pcL_zero]; rfl
  ·rintro i σ H1 hi ⟨v2,rfl,S1,hl1⟩
   have e1:(1:Int) + (i:Int)=((1 + i:Nat):Int):=by omega
   rw [e1]
   have hx:((1 + i:Nat):Int) / 2 ^ (1:Int).toNat=(((1 + i) / 2:Nat):Int):=by
    have:=shr_nat (1 + i) 1
    exact this
   refine ⟨_,rfl,.inl ⟨rfl,_,SqL.of hl1⟩,_,rfl,_,rfl,_,_,rfl,rfl,(show (0:Int)≤1 by decide),l,_,_,_,rfl,rfl,SqL.of hl1,at_of (j:=(1 + i) / 2) (v:=V.int ((pcL L ((1 + i) / 2):Nat):Int)) hx (by unfold ofs; rw [List.getElem?_map,map_range_at _ (by omega)]; rfl),_,rfl,_,_,rfl,rfl,_,_,rfl,rfl,l,_,_,rfl,rfl,hl1,(by rw [ofs_len,List.length_map,List.length_range]; exact nsize (by omega)),some (.int ((1 + i:Nat):Int)),rfl,S1.up hl,?_⟩
   rw [upd_same]
   dsimp only
   have e2:Builtin.bitAnd ((1 + i:Nat):Int) 1=(((1 + i) % 2:Nat):Int):=by rw [bitAnd_m1]; exact (Int.natCast_emod _ _).symm
   have e3:((pcL L ((1 + i) / 2):Nat):Int) + (((1 + i) % 2:Nat):Int)=((pcL L (1 + i):Nat):Int):=by
    rw [pcL_half (L:=L) (n:=1 + i) (by omega)]; omega
   rw [e2,e3,← Nat.add_assoc,List.range_succ,List.map_append]
   unfold ofs
   rw [List.map_append]; rfl
  ·rintro σ H1 ⟨v2,rfl,S1,hl1⟩
   refine ⟨_,rfl,k H1 l S1 hl ?_⟩
   rw [hl1]
   have:1 + (2 ^ L - 1)=2 ^ L:=by omega
   rw [this]; rfl
abbrev sHp:Stmt:=top 11
def spHp (K:PySem.W.Frag):Sp:=fun vs H Q _=>∃ (x:Nat) (a:Addr) (way:List Nat),vs=[.int x,.ref a]∧SqL K H a (ofs way)∧way.length≤12∧∀ H',Same H H'→Q (.int (plc x way:Nat)) H'
theorem scHp:FnScope ["number","way","places","place","cell"] ["number","way"] (defScope sHp):=⟨rfl,rfl,rfl,by decide +kernel,rfl,by decide +kernel,by decide +kernel⟩
theorem ok_hp {f:Addr} {fd:FuncData} (F:Fun K "hole_places" "hole_places" sHp f fd) (B:Blt mg):FnOk P w K mg base CX0 1 f fd ["number","way"] (spHp K):=by
 refine F.ok scHp (fun vs H Q E h=>?_) (fun cdv A outer s H vs Q E hr h=>?_)
 ·obtain ⟨x,a,way,rfl,_⟩:=h
  rfl
 ·obtain ⟨x,a,way,rfl,hS,hL,k⟩:=h
  have nd:=scHp.nd
  refine ⟨_,pss_cons (ps_set (i:=2) nd rfl (Or.inl rfl) pe_int)
   (pss_cons (ps_for PassesOwn.never rfl (pi_enum rfl B.enum (pa_cons (pv 1) pa_nil)) (pg_tup rfl (pgs_cons (pg_name (i:=3) nd rfl (Or.inl rfl)) (pgs_cons (pg_name (i:=4) nd rfl (Or.inl rfl)) pgs_nil)))
    (pss_one (ps_set (i:=2) nd rfl (Or.inl rfl) (pe_op op_or (pv 2) (pe_op op_shl (pe_op op_and (pe_op op_shr (pv 0) (pv 4)) pe_int) (pv 3))))))
   (pss_one (ps_ret (pv 2)))),?_⟩
  refine ⟨_,rfl,a,_,rfl,hS,for_it (n:=way.length) (fun i σ H'=>∃ v3 v4:Option V,σ=[some (.int x),some (.ref a),some (.int (plT x way i:Nat)),v3,v4]∧Same H H') ⟨none,none,rfl,Same.refl H⟩ ?_ ?_ ?_ ?_⟩
  ·rintro i σ H1 hi ⟨v3,v4,rfl,S1⟩
   exact ⟨ofs way,V.int (way[i]:Nat),S1.seq hS,by unfold ofs; rw [List.getElem?_map,List.getElem?_eq_getElem hi]; rfl⟩
  ·rintro σ H1 ⟨v3,v4,rfl,S1⟩
   exact ⟨ofs way,S1.seq hS,by rw [ofs_len]; exact Nat.le_refl _⟩
  ·rintro i σ H1 y H2 hi ⟨v3,v4,rfl,S1⟩ ⟨T,z,rfl,hT,rfl,hz⟩
   obtain ⟨c,hc,rfl⟩:=ofs_get (hz _ (S1.seq hS))
   refine ⟨T,_,rfl,SqT.of upd_same,rfl,_,_,rfl,_,_,rfl,rfl,?_⟩
   refine ⟨_,rfl,_,rfl,_,rfl,_,_,rfl,rfl,by omega,_,_,rfl,rfl,_,rfl,_,_,rfl,rfl,⟨by omega,by omega,?_⟩,_,_,rfl,rfl,some (.int (i:Nat)),some (.int (c:Nat)),?_,S1.new hT⟩
   ·rw [Int.toNat_natCast,bit_nat]
    have:x / 2 ^ c % 2 < 2:=Nat.mod_lt _ (by decide)
    rw [Int.natAbs_natCast]
    exact Nat.lt_trans this (by decide)
   ·show [some (V.int x),some (V.ref a),some (V.int (Builtin.bitOr (plT x way i:Nat) (Builtin.bitAnd ((x:Int) / 2 ^ (c:Int).toNat) 1 * 2 ^ (i:Int).toNat))),some (V.int (i:Nat)),some (V.int (c:Nat))]=_
    rw [Int.toNat_natCast,Int.toNat_natCast,bit_nat,Bits.natCast_mul_pow,bitOr_nat,plT_succ hc]
  ·rintro σ H1 ⟨v3,v4,rfl,S1⟩
   exact ⟨_,rfl,k H1 S1⟩
abbrev sFf:Stmt:=top 12
def spFf (K:PySem.W.Frag):Sp:=fun vs H Q _=>∃ (a b:Addr) (ws way:List Nat),vs=[.ref a,.ref b]∧SqL K H a (ofs ws)∧SqL K H b (ofs way)∧way.length≤12∧(∀ c ∈ way,c≤1000)∧ws.length≤100000∧
 ∀ (H':Hp) (p:Addr),Same H H'→H p=none→H' p=some (.dK (fkv (byP ws way)))→Q (.ref p) H'
theorem scFf:FnScope ["possible","way","cells","firsts","number","by_places"] ["possible","way"] (defScope sFf):=⟨rfl,rfl,rfl,by decide +kernel,rfl,by decide +kernel,by decide +kernel⟩
theorem fkv_put' (rs:List (Nat × Nat)) (q m:Nat) (h:q ∉ rs.map (·.1)):putK (fkv rs) (Sum.inl (q:Int)) (V.int (m:Int))=fkv (rs ++ [(q,m)]):=fkv_put rs q m (far_none.mpr h)
theorem fkv_len (rs:List (Nat × Nat)):(fkv rs).length=rs.length:=by unfold fkv; rw [List.length_map]
theorem fkv_get {rs:List (Nat × Nat)} {i:Nat} {k:Key} {v:V} (h:(fkv rs)[i]?=some (k,v)):∃ r,rs[i]?=some r∧k=Sum.inl (r.1:Int)∧v=.int (r.2:Int):=by
 unfold fkv at h
 rw [List.getElem?_map] at h
 cases e:rs[i]? with
 |none=>rw [e] at h; cases h
 |some r=>
  rw [e] at h
  have:=Option.some.inj h
  exact ⟨r,rfl,(Prod.mk.inj this).1.symm,(Prod.mk.inj this).2.symm⟩
theorem nd_take_new {rs:List (Nat × Nat)} {i:Nat} {r:Nat × Nat} (hn:(rs.map (·.1)).Nodup) (h:rs[i]?=some r):r.1 ∉ (rs.take i).map (·.1):=fun z=>by
 obtain ⟨r',hr',e⟩:=List.mem_map.mp z
 obtain ⟨j,hj⟩:=List.mem_iff_getElem?.mp hr'
 rw [List.getElem?_take] at hj
 by_cases q:j < i
 ·rw [if_pos q] at hj
  have h1:(rs.map (·.1))[i]?=some r.1:=by rw [List.getElem?_map,h]; rfl
  have h2:(rs.map (·.1))[j]?=some r.1:=by rw [List.getElem?_map,hj,← e]; rfl
  have:=nd_ix hn h1 h2
  omega
 ·rw [if_neg q] at hj; cases hj
theorem ok_ff {f f1 f2:Addr} {fd fd1 fd2:FuncData} (F:Fun K "first_fields" "first_fields" sFf f fd)
  (G1:FnOk P w K mg base CX0 1 f1 fd1 ["cells"] (spCn K)) (k1:PySem.W.keepIn K (.ref f1)=true) (b1:Binds K fd1 ["cells"] []) (g1:mg "cells_number"=some (.ref f1))
  (G2:FnOk P w K mg base CX0 1 f2 fd2 ["number","way"] (spHp K)) (k2:PySem.W.keepIn K (.ref f2)=true) (b2:Binds K fd2 ["number","way"] []) (g2:mg "hole_places"=some (.ref f2)) :
  FnOk P w K mg base CX0 2 f fd ["possible","way"] (spFf K):=by
 refine F.ok scFf (fun vs H Q E h=>?_) (fun cdv A outer s H vs Q E hr h=>?_)
 ·obtain ⟨a,b,ws,way,rfl,_⟩:=h
  rfl
 ·obtain ⟨a,b,ws,way,rfl,hS,hW,hL,hc,hlen,k⟩:=h
  have nd:=scFf.nd
  have hu:=hu_of hr
  refine ⟨_,pss_cons (ps_set (i:=2) nd rfl (Or.inl rfl) (pe_call G1 hr rfl g1 k1 b1 .nil pass0 (pa_cons (pv 1) pa_nil)))
   (pss_cons (ps_set (i:=3) nd rfl (Or.inl rfl) pe_dnewK)
   (pss_cons (ps_for PassesOwn.never rfl (pi_list (pv 0)) (pg_name (i:=4) nd rfl (Or.inl rfl))
    (pss_one (ps_expr (pe_dset (pv 3) (pe_op op_and (pv 4) (pv 2)) (pv 4) ⟨rfl,rfl,rfl,rfl⟩))))
   (pss_cons (ps_set (i:=5) nd rfl (Or.inl rfl) pe_dnewK)
   (pss_cons (ps_lock (ps_for PassesOwn.never rfl (pi_values (pv 3)) (pg_name (i:=4) nd rfl (Or.inl rfl))
    (pss_one (ps_dput hu (pv 5) (pe_call G2 hr rfl g2 k2 b2 .nil pass0 (pa_cons (pv 4) (pa_cons (pv 1) pa_nil))) (pv 4) rfl))))
   (pss_one (ps_ret (pv 5))))))),?_⟩
  refine ⟨_,rfl,b,way,rfl,hW,hc,?_⟩
  intro d hd
  generalize ek:(fun x=>x &&& orAll 0 way)=kf
  have ekf:∀ x,x &&& orAll 0 way=kf x:=fun x=>by rw [← ek]
  refine ⟨_,rfl,a,rfl,⟨_,((Same.refl H).new hd).seq hS⟩,for_list (xs:=ofs ws) (fun i σ H'=>∃ v4:Option V,σ=[some (.ref a),some (.ref b),some (.int (orAll 0 way:Nat)),some (.ref d),v4,none]∧Same H H'∧H' d=some (.dK (fkv (firstsBy kf (ws.take i)))))
   ⟨none,rfl,(Same.refl H).new hd,upd_same⟩ (fun i σ H' _ ⟨_,_,S,_⟩=>S.seq hS) ?_ ?_⟩
  ·rintro i y σ H1 hi ⟨v4,rfl,S1,hd1⟩
   obtain ⟨x,hx,rfl⟩:=ofs_get hi
   have hil:=(List.getElem?_eq_some_iff.mp hx).1
   have hfl:=firstsBy_len kf (ws.take i)
   rw [List.length_take] at hfl
   refine ⟨_,rfl,d,rfl,.inl ⟨_,.inl hd1⟩,_,rfl,_,rfl,_,_,rfl,rfl,_,rfl,_,Sum.inl ((kf x:Nat):Int),hd1,?_,(by rw [fkv_len]; exact nsize (by omega)),fun v hv=>?_,fun hv=>?_⟩
   ·show V.int (Builtin.bitAnd (x:Nat) (orAll 0 way:Nat))=V.int ((kf x:Nat):Int)
    rw [bitAnd_nat,ekf]
   ·refine ⟨_,rfl,S1,?_⟩
    rw [hd1,take_snoc hx,firstsBy_snoc]
    unfold addF
    rw [fkv_val] at hv
    cases e:far (firstsBy kf (ws.take i)) (kf x) with
    |none=>rw [e] at hv; cases hv
    |some z=>rfl
   ·refine ⟨_,rfl,S1.up hd,?_⟩
    rw [upd_same,take_snoc hx,firstsBy_snoc]
    unfold addF
    rw [fkv_val] at hv
    cases e:far (firstsBy kf (ws.take i)) (kf x) with
    |none=>rw [fkv_put _ _ _ e]
    |some z=>rw [e] at hv; cases hv
  ·rintro σ H1 ⟨v4,rfl,S1,hd1⟩
   rw [ofs_len,List.take_length] at hd1
   have hfl:=firstsBy_len kf ws
   have hkey:=firstsBy_key kf ws
   have hbp:byP ws way=(firstsBy kf ws).map fun r=>(plc r.2 way,r.2):=by unfold byP; rw [ek]
   have hnd:=byP_nd ws way
   generalize ers:firstsBy kf ws=rs at hd1 hfl hkey hbp
   intro d2 hd2
   have n12:d ≠ d2:=ne_of_none hd1 hd2
   have nH2:H d2=Option.none:=S1.free hd2
   have hd1':(upd H1 d2 (.dK [])) d=some (.dK (fkv rs)):=by rw [upd_ne n12]; exact hd1
   refine ⟨d,_,hd1',trivial,fun od=>⟨_,rfl,d,od,_,rfl,upd_same,?_⟩⟩
   have nHd:H d=Option.none:=hd
   refine for_it (n:=rs.length) (fun i σ H'=>∃ v4:Option V,σ=[some (.ref a),some (.ref b),some (.int (orAll 0 way:Nat)),some (.ref d),v4,some (.ref d2)]∧Same H H'∧H' d=some (.frz od (.dK (fkv rs)))∧H' d2=some (.dK (fkv ((byP ws way).take i))))
    ⟨v4,rfl,(S1.new hd2).up hd,upd_same,by rw [upd_ne (fun e=>n12 e.symm),upd_same]; rfl⟩ ?_ ?_ ?_ ?_
   ·rintro i σ H2 hi ⟨v4,rfl,S2,h1,h2⟩
    exact ⟨h1,by rw [fkv_len]; exact hi⟩
   ·rintro σ H2 ⟨v4,rfl,S2,h1,h2⟩
    exact ⟨h1,by rw [fkv_len]; exact Nat.le_refl _⟩
   ·rintro i σ H2 y H3 hi ⟨v4,rfl,S2,h1,h2⟩ ⟨rfl,key,hy⟩
    obtain ⟨r,hr',_,rfl⟩:=fkv_get hy
    have hbi:(byP ws way)[i]?=some (plc r.2 way,r.2):=by rw [hbp,List.getElem?_map,hr']; rfl
    refine ⟨_,rfl,_,rfl,_,rfl,_,rfl,r.2,b,way,rfl,S2.seq hW,hL,fun H4 S4=>?_⟩
    have h24:=S4 _ _ h2
    refine ⟨d2,_,rfl,DPut.k (k:=Sum.inl ((plc r.2 way:Nat):Int)) h24 (by rw [fkv_len,List.length_take]; exact nsize (by omega)),some (.int (r.2:Nat)),rfl,(S2.trans S4).up nH2,?_,?_⟩
    ·rw [upd_ne n12]; exact S4 _ _ h1
    ·rw [upd_same,fkv_put' _ _ _ (nd_take_new hnd hbi),take_snoc hbi]
   ·rintro σ H2 ⟨v4,rfl,S2,h1,h2⟩
    have hlen2:rs.length=(byP ws way).length:=by rw [hbp,List.length_map]
    rw [hlen2,List.take_length] at h2
    refine ⟨h1,_,rfl,k _ d2 (S2.up hd) nH2 ?_⟩
    rw [upd_ne (fun e=>n12 e.symm)]
    exact h2
abbrev sCf:Stmt:=top 13
def spCf (K:PySem.W.Frag):Sp:=fun vs H Q _=>∃ (a b:Addr) (ws way:List Nat),vs=[.ref a,.ref b]∧SqL K H a (ofs ws)∧SqL K H b (ofs way)∧(∀ c ∈ way,c≤1000)∧ws.length≤100000∧
 ∀ (H':Hp) (p:Addr),Same H H'→H p=none→H' p=some (.lst (ofs (ws.filter fun x=>Vbexai.clear x way)))→Q (.ref p) H'
theorem scCf:FnScope ["possible","way","cells","number"] ["possible","way"] (defScope sCf):=⟨rfl,rfl,rfl,by decide +kernel,rfl,by decide +kernel,by decide +kernel⟩
theorem ok_cf {f f1:Addr} {fd fd1:FuncData} (F:Fun K "clear_fields" "clear_fields" sCf f fd)
  (G1:FnOk P w K mg base CX0 1 f1 fd1 ["cells"] (spCn K)) (k1:PySem.W.keepIn K (.ref f1)=true) (b1:Binds K fd1 ["cells"] []) (g1:mg "cells_number"=some (.ref f1)):FnOk P w K mg base CX0 2 f fd ["possible","way"] (spCf K):=by
 refine F.ok scCf (fun vs H Q E h=>?_) (fun cdv A outer s H vs Q E hr h=>?_)
 ·obtain ⟨a,b,ws,way,rfl,_⟩:=h
  rfl
 ·obtain ⟨a,b,ws,way,rfl,hS,hW,hc,hlen,k⟩:=h
  have nd:=scCf.nd
  refine ⟨_,pss_cons (ps_set (i:=2) nd rfl (Or.inr rfl) (pe_call G1 hr rfl g1 k1 b1 .nil pass0 (pa_cons (pv 1) pa_nil)))
   (pss_one (ps_ret (pe_lc rfl nd (pi_list (pv 0)) (blkOk_by (own:=[("number",3)]) (by show blkC ["possible","way","cells","number"] (defScope sCf) _ _=true; decide +kernel)) (fun _ _ _ _ _=>pg_name (i:=3) nd rfl (Or.inl rfl))
   (fun _ _ _ _ _=>pts_one (pt_cmpR op_eq (pe_op op_and (pv 3) (pv 2)) pe_int (nomark _))) (fun _ _ _ _ _=>pv 3)))),?_⟩
  refine ⟨_,rfl,b,way,rfl,hW,hc,?_⟩
  refine ⟨_,rfl,a,rfl,⟨_,hS⟩,fun D hD=>?_⟩
  refine lc_list (xs:=ofs ws) (fun i H'=>Same H H'∧H' D=some (.lst (ofs ((ws.take i).filter fun x=>Vbexai.clear x way)))) ⟨(Same.refl H).new hD,upd_same⟩ (fun i H' _ h=>h.1.seq hS) ?_ ?_
  ·rintro i y H' hi ⟨S,hd⟩
   obtain ⟨x,hx,rfl⟩:=ofs_get hi
   refine ⟨rfl,_,rfl,_,rfl,_,_,rfl,rfl,rfl,_,rfl,?_⟩
   have et:decide (V.int (Builtin.bitAnd (x:Nat) (orAll 0 way:Nat))=V.int 0)=Vbexai.clear x way:=by
    rw [dec_int,bitAnd_nat]
    have q:=clear_and x way
    by_cases h:Vbexai.clear x way=true
    ·rw [h,decide_eq_true (by rw [q.mpr h]; rfl)]
    ·rw [Bool.eq_false_iff.mpr h,decide_eq_false (fun z=>h (q.mp (by omega)))]
   refine ite2 (fun hb=>?_) (fun hb=>?_)
   ·have hb':Vbexai.clear x way=true:=by rw [← et]; exact hb
    refine ⟨_,rfl,_,hd,?_,S.up hD,?_⟩
    ·rw [ofs_len]
     have l1:=List.length_filter_le (fun x=>Vbexai.clear x way) (ws.take i)
     rw [List.length_take] at l1
     exact nsize (Nat.le_trans l1 (by omega))
    ·rw [upd_same,take_snoc hx,List.filter_append,List.filter_cons,if_pos hb',List.filter_nil]
     unfold ofs
     rw [List.map_append]; rfl
   ·have hb':¬ Vbexai.clear x way=true:=by rw [← et]; exact hb
    refine ⟨S,?_⟩
    rw [take_snoc hx,List.filter_append,List.filter_cons,if_neg hb',List.filter_nil,List.append_nil]
    exact hd
  ·rintro H' ⟨S,hd⟩
   rw [ofs_len,List.take_length] at hd
   exact k H' D S hD hd
end
end Rp
namespace Rp
open PySem PySem.Spec PyProof.Rows L2
def SameX (d:Addr) (H H':Hp):Prop:=∀ b o,H b=some o→b ≠ d→H' b=some o
theorem SameX.back {d:Addr} {H H':Hp} {u:HO} (S:SameX d H H') (hd:H d=some u):Same H (upd H' d u):=fun b o e=>by
 by_cases h:b=d
 ·subst h
  rw [hd] at e
  rw [upd_same]; exact e
 ·rw [upd_ne h]; exact S b o e h
theorem SameX.of {d:Addr} {H H':Hp} {f:HO} (S:Same H H'):SameX d H (upd H' d f):=fun b o e h=>by
 rw [upd_ne h]; exact S b o e
theorem SameX.new {d p:Addr} {H H':Hp} {f:HO} (S:SameX d H H') (hp:H' p=Option.none):SameX d H (upd H' p f):=fun b o e h=>by
 have q:=S b o e h
 rw [upd_ne (ne_of_none q hp)]; exact q
theorem SameX.then {d:Addr} {H H' H'':Hp} (S:SameX d H H') (T:Same H' H''):SameX d H H'':=fun b o e h=>T b o (S b o e h)
theorem SqL.to {K:PySem.W.Frag} {H H':Hp} {a:Addr} {xs:List V} (h:SqL K H a xs) (k:∀ o,H a=some o→(∀ C dx fs,o ≠ .ins C dx fs)→(∀ kvs,o ≠ .dK kvs)→H' a=some o):SqL K H' a xs:=by
 rcases h with (h | ⟨o,h⟩) | h
 ·exact .inl (.inl (k _ h (fun _ _ _ z=>nomatch z) (fun _ z=>nomatch z)))
 ·exact .inl (.inr ⟨o,k _ h (fun _ _ _ z=>nomatch z) (fun _ z=>nomatch z)⟩)
 ·exact .inr h
theorem SqL.kp {K:PySem.W.Frag} {H H':Hp} {a p C dx:Addr} {fs:List (Str × V)} {xs:List V} (h:SqL K H a xs) (hp:H p=some (.ins C dx fs)) (k:SameX p H H'):SqL K H' a xs:=
 SqL.to h fun o e n _=>k a o e fun z=>by rw [z,hp] at e; cases e; exact n _ _ _ rfl
def crf (L:Nat) (d l:Addr):List (Str × V):=[("way_length",.int L),("firsts",.ref d),("set_bits",.ref l)]
structure CrAt (C:Addr) (H:Hp) (p:Addr) (ws way:List Nat):Prop where
 ex:∃ dx d l,H p=some (.ins C dx (crf way.length d l))∧H d=some (.dK (fkv (byP ws way)))∧H l=some (.lst (ofs (pcs way.length)))
theorem CrAt.same {C:Addr} {H H':Hp} {p:Addr} {ws way:List Nat} (c:CrAt C H p ws way) (S:Same H H'):CrAt C H' p ws way:=by
 obtain ⟨dx,d,l,h1,h2,h3⟩:=c.ex
 exact ⟨dx,d,l,S _ _ h1,S _ _ h2,S _ _ h3⟩
structure TxC (K:PySem.W.Frag) (C:Addr):Prop where
 cl:Cls K C
 nW:NoAttr K C "way_length"
 nF:NoAttr K C "firsts"
 nB:NoAttr K C "set_bits"
theorem pcs_at {L i:Nat} (h:i < 2 ^ L):(ofs (pcs L))[i]?=some (.int ((pcL L i:Nat):Int)):=by
 unfold ofs pcs
 rw [List.getElem?_map,map_range_at _ h]; rfl
section
variable {P:Program} {w:World} {K:PySem.W.Frag} {mg:Str→Option Value} {base:Heap}
abbrev sCi:Stmt:=inClass (top 14) 0
def spCi (K:PySem.W.Frag) (C:Addr):Sp:=fun vs H Q _=>∃ (p dx a b:Addr) (ws way:List Nat),vs=[.ref p,.ref a,.ref b]∧H p=some (.ins C dx [])∧SqL K H a (ofs ws)∧SqL K H b (ofs way)∧way.length≤12∧(∀ c ∈ way,c≤1000)∧ws.length≤100000∧
 ∀ H':Hp,CrAt C H' p ws way→SameX p H H'→Q .non H'
theorem scCi:FnScope ["self","possible","way"] ["self","possible","way"] (defScope sCi):=⟨rfl,rfl,rfl,by decide +kernel,rfl,by decide +kernel,by decide +kernel⟩
theorem ok_ci {f f1 f2 C:Addr} {fd fd1 fd2:FuncData} (F:Fun K "__init__" "Crossing.__init__" sCi f fd) (T:TxC K C) (B:Blt mg)
  (G1:FnOk P w K mg base CX0 2 f1 fd1 ["possible","way"] (spFf K)) (k1:PySem.W.keepIn K (.ref f1)=true) (b1:Binds K fd1 ["possible","way"] []) (g1:mg "first_fields"=some (.ref f1))
  (G2:FnOk P w K mg base CX0 1 f2 fd2 ["size"] spBc) (k2:PySem.W.keepIn K (.ref f2)=true) (b2:Binds K fd2 ["size"] []) (g2:mg "bit_counts"=some (.ref f2)) :
  FnOk P w K mg base CX0 3 f fd ["self","possible","way"] (spCi K C):=by
 refine F.ok scCi (fun vs H Q E h=>?_) (fun cdv A outer s H vs Q E hr h=>?_)
 ·obtain ⟨p,dx,a,b,ws,way,rfl,_⟩:=h
  rfl
 ·obtain ⟨p,dx,a,b,ws,way,rfl,hp,hA,hB,hL,hc,hlen,k⟩:=h
  have hr1:Room 1 _:=hr.mono (by decide)
  refine ⟨_,pss_cons (ps_fld (pv 0) (pe_callB call_len_seq rfl B.len PySem.boot_len (pa_cons (pv 2) pa_nil)) rfl)
   (pss_cons (ps_fld (pv 0) (pe_call G1 hr rfl g1 k1 b1 .nil pass0 (pa_cons (pv 1) (pa_cons (pv 2) pa_nil))) rfl)
   (pss_one (ps_fld (pv 0) (pe_call G2 hr1 rfl g2 k2 b2 .nil pass0 (pa_cons (pe_callB call_len_seq rfl B.len PySem.boot_len (pa_cons (pv 2) pa_nil)) pa_nil)) rfl))),?_⟩
  refine ⟨_,rfl,b,_,rfl,.inl hB,_,rfl,p,C,dx,[],rfl,hp,T.cl,T.nW,(by show 0 < 1000; decide),?_⟩
  rw [ofs_len]
  have X1:SameX p H (upd H p (.ins C dx (putF "way_length" (.int (way.length:Nat)) []))):=SameX.of (Same.refl H)
  refine ⟨_,rfl,_,rfl,a,b,ws,way,rfl,SqL.kp hA hp X1,SqL.kp hB hp X1,hL,hc,hlen,fun H2 d S2 nd hd=>?_⟩
  have npd:p ≠ d:=ne_of_none (o:=.ins C dx (putF "way_length" (.int (way.length:Nat)) [])) upd_same nd
  refine ⟨_,rfl,p,C,dx,_,rfl,S2 _ _ upd_same,T.cl,T.nF,(by show 1 < 1000; decide),?_⟩
  have X2:SameX p H (upd H2 p (.ins C dx (putF "firsts" (.ref d) (putF "way_length" (.int (way.length:Nat)) [])))):=fun b o e h=>by rw [upd_ne h]; exact S2 _ _ (X1 b o e h)
  refine ⟨_,rfl,b,_,rfl,.inl (SqL.kp hB hp X2),way.length,(by rw [ofs_len]; rfl),hL,fun H4 l S4 nl hl=>?_⟩
  have npl:p ≠ l:=ne_of_none (o:=.ins C dx (putF "firsts" (.ref d) (putF "way_length" (.int (way.length:Nat)) []))) upd_same nl
  have hd3:(upd H2 p (.ins C dx (putF "firsts" (.ref d) (putF "way_length" (.int (way.length:Nat)) [])))) d=some (.dK (fkv (byP ws way))):=by rw [upd_ne (fun e=>npd e.symm)]; exact hd
  refine ⟨_,rfl,p,C,dx,_,rfl,S4 _ _ upd_same,T.cl,T.nB,(by show 2 < 1000; decide),?_⟩
  refine k _ ⟨dx,d,l,upd_same,?_,?_⟩ fun b o e h=>by rw [upd_ne h]; exact S4 _ _ (X2 b o e h)
  ·rw [upd_ne (fun e=>npd e.symm)]; exact S4 _ _ hd3
  ·rw [upd_ne (fun e=>npl e.symm)]; exact hl
abbrev sMh:Stmt:=inClass (top 14) 1
def spMh (C:Addr):Sp:=fun vs H Q _=>∃ (p:Addr) (ws way:List Nat),vs=[.ref p]∧CrAt C H p ws way∧ws ≠ []∧ws.length≤100000∧
 ∀ H':Hp,Same H H'→Q (.int ((ws.foldl (fun m x=>max m (way.filter fun c=>Vbexai.hole x c).length) 0:Nat):Int)) H'
theorem scMh:FnScope ["self","places"] ["self"] (defScope sMh):=⟨rfl,rfl,rfl,by decide +kernel,rfl,by decide +kernel,by decide +kernel⟩
theorem byP_len (ws way:List Nat):(byP ws way).length≤ws.length:=by
 unfold byP
 rw [List.length_map]
 exact firstsBy_len _ _
theorem ok_mh {f C:Addr} {fd:FuncData} (F:Fun K "most_holes" "Crossing.most_holes" sMh f fd) (T:TxC K C) (B:Blt mg):FnOk P w K mg base CX0 1 f fd ["self"] (spMh C):=by
 refine F.ok scMh (fun vs H Q E h=>?_) (fun cdv A outer s H vs Q E hr h=>?_)
 ·obtain ⟨p,ws,way,rfl,_⟩:=h
  rfl
 ·obtain ⟨p,ws,way,rfl,hC,hne,hlen,k⟩:=h
  obtain ⟨dx,d,l,hp,hd,hl⟩:=hC.ex
  have nd:=scMh.nd
  refine ⟨_,pss_one (ps_ret (pe_callB (cr_max rfl) rfl B.max (by decide +kernel) (pa_cons (pe_lock (pe_lc rfl nd (pi_keys (pe_fld (pv 0) rfl)) (blkOk_by (own:=[("places",1)]) (by show blkC ["self","places"] (defScope sMh) _ _=true; decide +kernel))
   (fun _ _ _ _ _=>pg_name (i:=1) nd rfl (Or.inl rfl)) (fun _ _ _ _ _=>pts_nil) (fun _ _ _ _ _=>pe_ix (ix_listK K rfl) (pe_fldK K rfl (pv 0) rfl) (pv 1) (fun _ _=>rfl)))) pa_nil))),?_⟩
  have npd:p ≠ d:=ne_of hp hd (by intro z; cases z)
  have nld:l ≠ d:=ne_of hl hd (by intro z; cases z)
  refine ⟨d,_,hd,trivial,fun od=>⟨_,rfl,p,C,dx,_,_,rfl,(by rw [upd_ne npd]; exact hp),T.cl,T.nF,rfl,d,od,rfl,.inl ⟨_,upd_same,fun D hD=>?_⟩⟩⟩
  have nDd:d ≠ D:=ne_of_none (o:=.frz od (.dK (fkv (byP ws way)))) upd_same hD
  have nHD:H D=Option.none:=by rw [upd_ne (fun e=>nDd e.symm)] at hD; exact hD
  have hbl:=byP_len ws way
  refine lc_it (n:=(byP ws way).length) (fun i H'=>SameX d H H'∧H' d=some (.frz od (.dK (fkv (byP ws way))))∧H' D=some (.lst (ofs (((byP ws way).take i).map fun r=>pcL way.length r.1))))
   ⟨(SameX.of (Same.refl H)).new hD,by rw [upd_ne nDd,upd_same],upd_same⟩ ?_ ?_ ?_ ?_
  ·rintro i H1 hi ⟨S1,h1,h2⟩
   exact ⟨h1,by rw [fkv_len]; exact hi⟩
  ·rintro H1 ⟨S1,h1,h2⟩
   exact ⟨h1,by rw [fkv_len]; exact Nat.le_refl _⟩
  ·rintro i H1 y H2 hi ⟨S1,h1,h2⟩ ⟨rfl,key,v,hy,rfl⟩
   obtain ⟨r,hr',rfl,rfl⟩:=fkv_get hy
   have hm:=byP_mem (List.mem_of_getElem? hr')
   have hlt:r.1 < 2 ^ way.length:=by rw [hm.1]; exact plc_lt _ _
   refine ⟨rfl,?_⟩
   unfold tYes
   dsimp only
   rw [if_pos rfl]
   refine ⟨_,rfl,p,C,dx,_,_,rfl,S1 _ _ hp npd,T.cl,T.nB,rfl,_,rfl,l,_,_,_,rfl,rfl,SqL.of (S1 _ _ hl nld),atI_nat (pcs_at hlt),_,h2,(by rw [ofs_len,List.length_map,List.length_take]; exact nsize (by omega)),?_,?_,?_⟩
   ·intro b o e hb
    rw [upd_ne (ne_of_none e nHD)]
    exact S1 b o e hb
   ·rw [upd_ne nDd]; exact h1
   ·rw [upd_same,take_snoc hr',List.map_append]
    unfold ofs
    rw [List.map_append]; rfl
  ·rintro H1 ⟨S1,h1,h2⟩
   rw [List.take_length] at h2
   refine ⟨h1,D,((byP ws way).map fun r=>pcL way.length r.1).map (fun (n:Nat)=>(n:Int)),rfl,?_,?_,fun m hm hu=>?_⟩
   ·refine SqL.of ?_
    rw [upd_ne (fun e=>nDd e.symm),h2,ofs_int]
   ·rw [List.length_map,List.length_map]
    exact List.length_pos_iff.mpr (byP_ne hne)
   ·obtain ⟨n,hn,rfl⟩:=List.mem_map.mp hm
    have e:=max_holes hn fun y hy=>by
     have:=hu (y:Int) (List.mem_map.mpr ⟨y,hy,rfl⟩)
     omega
    rw [e]
    exact k _ (S1.back hd)
abbrev sSt:Stmt:=inClass (top 14) 2
def spSt (C:Addr):Sp:=fun vs H Q _=>∃ (p dx d l:Addr) (L n s t:Nat),vs=[.ref p,.int n,.int s,.int t]∧H p=some (.ins C dx (crf L d l))∧L≤12∧n≤9∧s≤6∧Q (.int (standN L s t n:Nat)) H
theorem scSt:FnScope ["self","members","spacing","moment","places","member","place"] ["self","members","spacing","moment"] (defScope sSt):=⟨rfl,rfl,rfl,by decide +kernel,rfl,by decide +kernel,by decide +kernel⟩
theorem ok_st {f C:Addr} {fd:FuncData} (F:Fun K "standing" "Crossing.standing" sSt f fd) (T:TxC K C) (B:Blt mg):FnOk P w K mg base CX0 1 f fd ["self","members","spacing","moment"] (spSt C):=by
 refine F.ok scSt (fun vs H Q E h=>?_) (fun cdv A outer s H vs Q E hr h=>?_)
 ·obtain ⟨p,dx,d,l,L,n,s,t,rfl,_⟩:=h
  rfl
 ·obtain ⟨p,dx,d,l,L,n,sp,t,rfl,hp,hL,hn,hs,k⟩:=h
  have nd:=scSt.nd
  refine ⟨_,pss_cons (ps_set (i:=4) nd rfl (Or.inl rfl) pe_int)
   (pss_cons (ps_for PassesOwn.never rfl (pi_range1 rfl B.range (pa_cons (pv 1) pa_nil)) (pg_name (i:=5) nd rfl (Or.inl rfl))
    (pss_cons (ps_set (i:=6) nd rfl (Or.inl rfl) (pe_op op_sub (pv 3) (pe_op op_mul (pv 5) (pv 2))))
    (pss_one (ps_if (pt_chain op_le op_lt pe_int (pv 6) (pe_fld (pv 0) rfl)) (pss_one (ps_set (i:=4) nd rfl (Or.inl rfl) (pe_op op_or (pv 4) (pe_op op_shl pe_int (pv 6))))) pss_nil))))
   (pss_one (ps_ret (pv 4)))),?_⟩
  refine ⟨_,rfl,n,rfl,by omega,by omega,?_⟩
  rw [Int.toNat_natCast]
  refine for_range (n:=n) (fun i σ H'=>∃ v5 v6:Option V,σ=[some (.ref p),some (.int n),some (.int sp),some (.int t),some (.int (standN L sp t i:Nat)),v5,v6]∧H'=H) ⟨none,none,rfl,rfl⟩ ?_ ?_
  ·rintro i σ H' hi ⟨v5,v6,rfl,rfl⟩
   have e0:(0:Int) + (i:Int)=(i:Int):=by omega
   rw [e0]
   have him:i * sp≤9 * 6:=Nat.mul_le_mul (by omega) hs
   have e1:(t:Int) - (i:Int) * (sp:Int)=(t:Int) - ((i * sp:Nat):Int):=by rw [Int.natCast_mul]
   refine ⟨_,rfl,_,rfl,_,rfl,o1 rfl rfl (.inl ⟨by omega,by omega⟩) rfl (o0 rfl rfl (congrArg V.int e1) ?_)⟩
   refine ⟨_,rfl,_,_,rfl,rfl,_,rfl,ite2 (fun h1=>?_) (fun h1=>?_)⟩
   ·have h1':i * sp≤t:=by have:=of_decide_eq_true h1; omega
    have e2:(t:Int) - ((i * sp:Nat):Int)=((t - i * sp:Nat):Int):=by omega
    rw [e2]
    refine ⟨_,rfl,p,C,dx,_,_,rfl,hp,T.cl,T.nW,rfl,_,_,rfl,rfl,_,rfl,ite2 (fun h2=>?_) (fun h2=>?_)⟩
    ·have h2':t - i * sp < L:=by have:=of_decide_eq_true h2; omega
     refine ⟨_,rfl,_,rfl,_,_,rfl,rfl,⟨by omega,by omega,by decide⟩,_,_,rfl,rfl,some (.int (i:Nat)),some (.int ((t - i * sp:Nat):Int)),?_,rfl⟩
     show [some (V.ref p),some (V.int n),some (V.int sp),some (V.int t),some (V.int (Builtin.bitOr (standN L sp t i:Nat) (1 * 2 ^ ((t - i * sp:Nat):Int).toNat))),some (V.int (i:Nat)),some (V.int ((t - i * sp:Nat):Int))]=_
     rw [Int.toNat_natCast,pow_nat,bitOr_nat]
     have e3:standN L sp t (i + 1)=standN L sp t i ||| 2 ^ (t - i * sp):=by
      show (if i * sp≤t∧t - i * sp < L then _ else _)=_
      rw [if_pos ⟨h1',h2'⟩]
     rw [e3]
    ·have h2':¬ t - i * sp < L:=fun z=>h2 (decide_eq_true (by omega))
     refine ⟨some (.int (i:Nat)),some (.int ((t - i * sp:Nat):Int)),?_,rfl⟩
     have e3:standN L sp t (i + 1)=standN L sp t i:=by
      show (if i * sp≤t∧t - i * sp < L then _ else _)=_
      rw [if_neg (fun z=>h2' z.2)]
     rw [e3]; rfl
   ·have h1':¬ i * sp≤t:=fun z=>h1 (decide_eq_true (by omega))
    refine ⟨_,rfl,iteF ⟨some (.int (i:Nat)),some (.int ((t:Int) - ((i * sp:Nat):Int))),?_,rfl⟩⟩
    have e3:standN L sp t (i + 1)=standN L sp t i:=by
     show (if i * sp≤t∧t - i * sp < L then _ else _)=_
     rw [if_neg (fun z=>h1' z.1)]
    rw [e3]; rfl
  ·rintro σ H' ⟨v5,v6,rfl,rfl⟩
   exact ⟨_,rfl,k⟩
abbrev sFa:Stmt:=inClass (top 14) 3
def spFa (C:Addr):Sp:=fun vs H Q _=>∃ (p:Addr) (ws way:List Nat) (n s hold:Nat),vs=[.ref p,.int n,.int s,.int hold]∧CrAt C H p ws way∧way.length≤12∧(1≤n∧n≤9)∧(1≤s∧s≤6)∧hold≤4∧
 (∀ H':Hp,Same H H'→Vbexai.breaks ws way n s hold=none→Q .non H')∧
 ∀ (H':Hp) (q:Addr) (t x:Nat),Same H H'→H' q=some (.tup [.int (t:Nat),.int (Vbexai.fallen x way n s t:Nat),.int (x:Nat)])→Vbexai.breaks ws way n s hold=some (t,x)→x ∈ ws→Q (.ref q) H'
theorem scFa:FnScope ["self","members","spacing","hold","end","moment","stood_on","places","number","fallen"] ["self","members","spacing","hold"] (defScope sFa):=⟨rfl,rfl,rfl,by decide +kernel,rfl,by decide +kernel,by decide +kernel⟩
theorem ok_fa {f f1 C:Addr} {fd fd1:FuncData} (F:Fun K "first_fall" "Crossing.first_fall" sFa f fd) (T:TxC K C) (B:Blt mg) (m1:Meth K C "standing" f1)
  (G1:FnOk P w K mg base CX0 1 f1 fd1 ["self","members","spacing","moment"] (spSt C)) (b1:Binds K fd1 ["self","members","spacing","moment"] []):FnOk P w K mg base CX0 2 f fd ["self","members","spacing","hold"] (spFa C):=by
 refine F.ok scFa (fun vs H Q E h=>?_) (fun cdv A outer s H vs Q E hr h=>?_)
 ·obtain ⟨p,ws,way,n,s,hold,rfl,_⟩:=h
  rfl
 ·obtain ⟨p,ws,way,n,sp,hold,rfl,hC,hL,⟨hn1,hn9⟩,⟨hs1,hs6⟩,hh,kN,kS⟩:=h
  obtain ⟨dx,d,l,hp,hd,hl⟩:=hC.ex
  have nd:=scFa.nd
  have npd:p ≠ d:=ne_of hp hd (by intro z; cases z)
  have nld:l ≠ d:=ne_of hl hd (by intro z; cases z)
  refine ⟨_,pss_cons (ps_set (i:=4) nd rfl (Or.inl rfl) (pe_op op_add (pe_fld (pv 0) rfl) (pe_op op_mul (pe_op op_sub (pv 1) pe_int) (pv 2))))
   (pss_cons (ps_for PassesOwn.never rfl (pi_range1 rfl B.range (pa_cons (pv 4) pa_nil)) (pg_name (i:=5) nd rfl (Or.inl rfl))
    (pss_cons (ps_set (i:=6) nd rfl (Or.inl rfl) (pe_meth (pv 0) T.cl m1 G1 hr b1 .nil pass0 (pa_cons (pv 1) (pa_cons (pv 2) (pa_cons (pv 5) pa_nil)))))
    (pss_one (ps_lock (ps_for PassesOwn.never rfl (pi_items (pe_fld (pv 0) rfl)) (pg_tup rfl (pgs_cons (pg_name (i:=7) nd rfl (Or.inl rfl)) (pgs_cons (pg_name (i:=8) nd rfl (Or.inl rfl)) pgs_nil)))
     (pss_cons (ps_set (i:=9) nd rfl (Or.inl rfl) (pe_ix ix_list (pe_fld (pv 0) rfl) (pe_op op_and (pv 7) (pv 6)) (fun _ _=>rfl)))
     (pss_one (ps_if (pt_cmpR op_gt (pe_op op_mul (pv 9) (pe_op op_add (pv 3) pe_int)) (pv 1) (nomark _)) (pss_one (ps_ret (pe_tup (pa_cons (pv 5) (pa_cons (pv 9) (pa_cons (pv 8) pa_nil)))))) pss_nil))))))))
   (pss_one (ps_ret pe_non))),?_⟩
  have hns:(n - 1) * sp≤8 * 6:=Nat.mul_le_mul (by omega) hs6
  have e1:(n:Int) - 1=((n - 1:Nat):Int):=by omega
  have e2:(way.length:Int) + ((n - 1:Nat):Int) * (sp:Int)=((way.length + (n - 1) * sp:Nat):Int):=by rw [Int.natCast_add,Int.natCast_mul]
  refine ⟨_,rfl,p,C,dx,_,_,rfl,hp,T.cl,T.nW,rfl,_,rfl,_,_,rfl,rfl,_,rfl,_,_,rfl,rfl,.inl ⟨by omega,by omega⟩,o0 rfl rfl (congrArg V.int (show (way.length:Int) + ((n:Int) - 1) * (sp:Int)=((way.length + (n - 1) * sp:Nat):Int) by rw [e1,e2])) ?_⟩
  refine ⟨_,rfl,_,rfl,by omega,by omega,?_⟩
  rw [Int.toNat_natCast]
  refine for_range (n:=way.length + (n - 1) * sp) (fun i σ H'=>∃ v5 v6 v7 v8 v9:Option V,σ=[some (.ref p),some (.int n),some (.int sp),some (.int hold),some (.int ((way.length + (n - 1) * sp:Nat):Int)),v5,v6,v7,v8,v9]∧Same H H'∧∀ t,t < i→(byP ws way).find? (fun r=>tooMuch way.length n sp hold t r.1)=none)
   ⟨none,none,none,none,none,rfl,Same.refl H,fun t ht=>by omega⟩ ?_ ?_
  ·rintro t σ H1 ht ⟨v5,v6,v7,v8,v9,rfl,S1,hno⟩
   have e0:(0:Int) + (t:Int)=(t:Int):=by omega
   rw [e0]
   have hp1:=S1 _ _ hp
   refine ⟨_,rfl,p,dx,_,rfl,hp1,rfl,_,rfl,_,rfl,_,rfl,p,dx,d,l,way.length,n,sp,t,rfl,hp1,hL,hn9,hs6,?_⟩
   refine ⟨d,_,S1 _ _ hd,trivial,fun od=>⟨_,rfl,p,C,dx,_,_,rfl,(by rw [upd_ne npd]; exact hp1),T.cl,T.nF,rfl,d,od,_,rfl,upd_same,?_⟩⟩
   refine for_it (n:=(byP ws way).length) (fun i σ H'=>(∃ v7 v8 v9:Option V,σ=[some (.ref p),some (.int n),some (.int sp),some (.int hold),some (.int ((way.length + (n - 1) * sp:Nat):Int)),some (.int (t:Nat)),some (.int (standN way.length sp t n:Nat)),v7,v8,v9])∧SameX d H H'∧H' d=some (.frz od (.dK (fkv (byP ws way))))∧∀ r ∈ (byP ws way).take i,tooMuch way.length n sp hold t r.1=false)
    ⟨⟨v7,v8,v9,rfl⟩,SameX.of S1,upd_same,fun r hr=>by cases hr⟩ ?_ ?_ ?_ ?_
   ·rintro i σ H2 hi ⟨_,S2,h1,h2⟩
    exact ⟨h1,by rw [fkv_len]; exact hi⟩
   ·rintro σ H2 ⟨_,S2,h1,h2⟩
    exact ⟨h1,by rw [fkv_len]; exact Nat.le_refl _⟩
   ·rintro i σ H2 y H3 hi ⟨⟨v7,v8,v9,rfl⟩,S2,h1,h2⟩ ⟨tT,key,v,hy,rfl,nT,rfl⟩
    obtain ⟨r,hr',rfl,rfl⟩:=fkv_get hy
    have hm:=byP_mem (List.mem_of_getElem? hr')
    have hlt:r.1 &&& standN way.length sp t n < 2 ^ way.length:=stand_lt _ _ _ _ _ (by rw [hm.1]; exact plc_lt _ _)
    have S3:=S2.new (f:=.tup [.int (r.1:Nat),.int (r.2:Nat)]) nT
    have nTd:tT ≠ d:=fun e=>by rw [e,h1] at nT; cases nT
    have h13:(upd H2 tT (.tup [.int (r.1:Nat),.int (r.2:Nat)])) d=some (.frz od (.dK (fkv (byP ws way)))):=by rw [upd_ne (fun e=>nTd e.symm)]; exact h1
    refine ⟨tT,_,rfl,SqT.of upd_same,rfl,_,_,rfl,_,_,rfl,rfl,?_⟩
    refine ⟨_,rfl,p,C,dx,_,_,rfl,S3 _ _ hp npd,T.cl,T.nB,rfl,_,rfl,_,rfl,_,_,rfl,rfl,l,_,_,_,rfl,rfl,SqL.of (S3 _ _ hl nld),at_of (bitAnd_nat _ _) (pcs_at hlt),?_⟩
    have hpc:pcL way.length (r.1 &&& standN way.length sp t n)≤12:=by
     unfold pcL
     have:=List.countP_le_length (p:=fun i=>(r.1 &&& standN way.length sp t n).testBit i) (l:=List.range way.length)
     rw [List.length_range] at this
     omega
    have e3:((pcL way.length (r.1 &&& standN way.length sp t n):Nat):Int) * ((hold:Int) + 1)=((pcL way.length (r.1 &&& standN way.length sp t n) * (hold + 1):Nat):Int):=by rw [Int.natCast_mul]; rfl
    refine ⟨_,rfl,_,rfl,_,_,rfl,rfl,_,_,rfl,rfl,.inl ⟨by omega,by omega⟩,_,rfl,_,_,rfl,rfl,_,rfl,?_⟩
    rw [e3]
    refine ite2 (fun hb=>?_) (fun hb=>?_)
    ·have hb':tooMuch way.length n sp hold t r.1=true:=decide_eq_true (by have:=of_decide_eq_true hb; omega)
     have hfind:(byP ws way).find? (fun r=>tooMuch way.length n sp hold t r.1)=some r:=by
      have hsplit:byP ws way=(byP ws way).take i ++ r::(byP ws way).drop (i + 1):=by
       have q:=List.take_append_drop i (byP ws way)
       rw [List.drop_eq_getElem_cons (List.getElem?_eq_some_iff.mp hr').1,(List.getElem?_eq_some_iff.mp hr').2] at q
       exact q.symm
      rw [hsplit,List.find?_append,List.find?_cons,hb']
      have:((byP ws way).take i).find? (fun r=>tooMuch way.length n sp hold t r.1)=none:=List.find?_eq_none.mpr fun r hr=>by rw [h2 r hr]; decide
      rw [this]; rfl
     obtain ⟨q1,q2,q3⟩:=breaks_some hs1 ht hfind hno
     refine ⟨_,rfl,_,rfl,_,rfl,(by show 3≤sizeLine; decide),fun q hq=>?_⟩
     have nqd:q ≠ d:=fun e=>by
      rw [e] at hq
      have z:=h13.symm.trans hq
      cases z
     refine ⟨by rw [upd_ne (fun e=>nqd e.symm)]; exact h13,?_⟩
     refine kS _ q t r.2 ((S3.new hq).back hd) ?_ q1 q3
     rw [upd_ne nqd,upd_same,q2]
    ·refine ⟨⟨_,_,_,rfl⟩,S3,h13,fun r' hr2=>?_⟩
     rw [take_snoc hr',List.mem_append,List.mem_singleton] at hr2
     rcases hr2 with hr2 | rfl
     ·exact h2 r' hr2
     ·exact decide_eq_false fun z=>hb (decide_eq_true (by omega))
   ·rintro σ H2 ⟨⟨v7,v8,v9,rfl⟩,S2,h1,h2⟩
    rw [List.take_length] at h2
    refine ⟨h1,_,_,v7,v8,v9,rfl,S2.back hd,fun t' ht'=>?_⟩
    by_cases e:t'=t
    ·subst e
     exact List.find?_eq_none.mpr fun r hr=>by rw [h2 r hr]; decide
    ·exact hno t' (by omega)
  ·rintro σ H1 ⟨v5,v6,v7,v8,v9,rfl,S1,hno⟩
   exact kN H1 S1 (breaks_none hs1 hno)
abbrev sSafe:Stmt:=inClass (top 14) 4
def spSafe (C:Addr):Sp:=fun vs H Q _=>∃ (p:Addr) (ws way:List Nat) (n s hold:Nat),vs=[.ref p,.int n,.int s,.int hold]∧CrAt C H p ws way∧way.length≤12∧(1≤n∧n≤9)∧(1≤s∧s≤6)∧hold≤4∧
 ∀ H':Hp,Same H H'→Q (.bl (Vbexai.breaks ws way n s hold).isNone) H'
theorem scSafe:FnScope ["self","members","spacing","hold"] ["self","members","spacing","hold"] (defScope sSafe):=⟨rfl,rfl,rfl,by decide +kernel,rfl,by decide +kernel,by decide +kernel⟩
theorem ok_safe {f f1 C:Addr} {fd fd1:FuncData} (F:Fun K "is_safe" "Crossing.is_safe" sSafe f fd) (T:TxC K C) (m1:Meth K C "first_fall" f1)
  (G1:FnOk P w K mg base CX0 2 f1 fd1 ["self","members","spacing","hold"] (spFa C)) (b1:Binds K fd1 ["self","members","spacing","hold"] []):FnOk P w K mg base CX0 3 f fd ["self","members","spacing","hold"] (spSafe C):=by
 refine F.ok scSafe (fun vs H Q E h=>?_) (fun cdv A outer s H vs Q E hr h=>?_)
 ·obtain ⟨p,ws,way,n,s,hold,rfl,_⟩:=h
  rfl
 ·obtain ⟨p,ws,way,n,sp,hold,rfl,hC,hL,hn,hs,hh,k⟩:=h
  obtain ⟨dx,d,l,hp,hd,hl⟩:=hC.ex
  refine ⟨_,pss_one (ps_ret (pe_cmp (pc_isN (pe_meth (pv 0) T.cl m1 G1 hr b1 .nil pass0 (pa_cons (pv 1) (pa_cons (pv 2) (pa_cons (pv 3) pa_nil))))))),?_⟩
  refine ⟨_,rfl,p,dx,_,rfl,hp,rfl,_,rfl,_,rfl,_,rfl,p,ws,way,n,sp,hold,rfl,hC,hL,hn,hs,hh,fun H1 S1 e=>?_,fun H1 q t x S1 hq e _=>?_⟩
  ·have:=k H1 S1
   rw [e] at this
   exact this
  ·have:=k H1 S1
   rw [e] at this
   exact this
end
end Rp
namespace Rp
open PySem PySem.Spec PyProof.Rows L2
abbrev fnd (fs:List Vbexai.Find):List (Key × V):=fs.map fun p=>(Sum.inl (p.1:Int),V.int (Vbexai.bit p.2))
def glf (fo:Vbexai.Form) (hl pl:Addr) (cn:V) (d:Addr):List (Str × V):=
 [("width",.int fo.w),("height",.int fo.h),("least",.int fo.least),("most",.int fo.most),("many",.int fo.many),("hidden",.ref hl),("possible",.ref pl),("counts",cn),("finds",.ref d)]
structure GlA (C:Addr) (H:Hp) (g dx hl pl d:Addr) (cn:V) (st:Vbexai.St):Prop where
 at_:H g=some (.ins C dx (glf st.form hl pl cn d))
 hid:H hl=some (.lst (ofs (Vbexai.worlds st.form)))
 pos:H pl=some (.lst (ofs st.left))
 cnt:cn=.non∨∃ c,cn=.ref c∧H c=some (.lst (ofs (cnts st.left (st.form.w * st.form.h))))
 fin:H d=some (.dK (fnd st.finds))
 ok:StOk st
def GlAt (C:Addr) (H:Hp) (g:Addr) (st:Vbexai.St):Prop:=∃ dx hl pl d cn,GlA C H g dx hl pl d cn st
theorem GlA.same {C:Addr} {H H':Hp} {g dx hl pl d:Addr} {cn:V} {st:Vbexai.St} (h:GlA C H g dx hl pl d cn st) (S:Same H H'):GlA C H' g dx hl pl d cn st:=by
 refine ⟨S _ _ h.at_,S _ _ h.hid,S _ _ h.pos,?_,S _ _ h.fin,h.ok⟩
 rcases h.cnt with e | ⟨c,e,q⟩
 ·exact .inl e
 ·exact .inr ⟨c,e,S _ _ q⟩
theorem GlAt.same {C:Addr} {H H':Hp} {g:Addr} {st:Vbexai.St} (h:GlAt C H g st) (S:Same H H'):GlAt C H' g st:=by
 obtain ⟨dx,hl,pl,d,cn,h⟩:=h
 exact ⟨dx,hl,pl,d,cn,h.same S⟩
def Keep (H H':Hp):Prop:=(∀ b o,H b=some o→(∀ C dx fs,o ≠ .ins C dx fs)→(∀ kvs,o ≠ .dK kvs)→H' b=some o)∧∀ b o,H b=some o→∃ o',H' b=some o'
theorem _root_.L2.Same.keep {H H':Hp} (S:Same H H'):Keep H H':=⟨fun b o e _ _=>S b o e,fun b o e=>⟨o,S b o e⟩⟩
theorem Keep.trans {H H1 H2:Hp} (a:Keep H H1) (b:Keep H1 H2):Keep H H2:=⟨fun c o h n1 n2=>b.1 c o (a.1 c o h n1 n2) n1 n2,fun c o h=>let ⟨o',h'⟩:=a.2 c o h; b.2 c o' h'⟩
theorem Keep.seq {K:PySem.W.Frag} {H H':Hp} {a:Addr} {xs:List V} (k:Keep H H') (h:SqL K H a xs):SqL K H' a xs:=SqL.to h fun o e n1 n2=>k.1 a o e n1 n2
theorem Keep.live {H H':Hp} {p:Addr} {o:HO} (k:Keep H H'):∀ b x,H b=some x→∃ o',(upd H' p o) b=some o':=fun b x e=>by
 by_cases h:b=p
 ·subst h; exact ⟨_,upd_same⟩
 ·rw [upd_ne h]; exact k.2 b x e
theorem Keep.ins {H H':Hp} {g C dx:Addr} {fs:List (Str × V)} {o:HO} (k:Keep H H') (hg:H' g=some (.ins C dx fs)):Keep H (upd H' g o):=⟨fun b x e n1 n2=>by
 have q:=k.1 b x e n1 n2
 rw [upd_ne (fun z=>by rw [z,hg] at q; cases q; exact n1 _ _ _ rfl)]; exact q,k.live⟩
theorem Keep.dict {H H':Hp} {d:Addr} {kvs:List (Key × V)} {o:HO} (k:Keep H H') (hd:H' d=some (.dK kvs)):Keep H (upd H' d o):=⟨fun b x e n1 n2=>by
 have q:=k.1 b x e n1 n2
 rw [upd_ne (fun z=>by rw [z,hd] at q; cases q; exact n2 _ rfl)]; exact q,k.live⟩
theorem Keep.free {H H':Hp} (k:Keep H H') {l:Addr} (h:H' l=Option.none):H l=Option.none:=by
 cases e:H l with
 |none=>rfl
 |some o=>
  obtain ⟨o',q⟩:=k.2 l o e
  rw [h] at q
  cases q
structure TxG (K:PySem.W.Frag) (C:Addr):Prop where
 cl:Cls K C
 nW:NoAttr K C "width"
 nH:NoAttr K C "height"
 nL:NoAttr K C "least"
 nM:NoAttr K C "most"
 nY:NoAttr K C "many"
 nI:NoAttr K C "hidden"
 nP:NoAttr K C "possible"
 nC:NoAttr K C "counts"
 nF:NoAttr K C "finds"
theorem putF_len (f:Str) (v:V):∀ fs:List (Str × V),(putF f v fs).length≤fs.length + 1
 | []=>Nat.le_refl _
 |(g,x)::r=>by
  show (if g=f then (g,v)::r else (g,x)::putF f v r).length≤_
  by_cases h:g=f
  ·rw [if_pos h,List.length_cons,List.length_cons]; omega
  ·rw [if_neg h,List.length_cons,List.length_cons]
   have:=putF_len f v r
   omega
section
variable {P:Program} {w:World} {K:PySem.W.Frag} {mg:Str→Option Value} {base:Heap}
abbrev sCc:Stmt:=inClass (top 19) 3
def spCc (C:Addr):Sp:=fun vs H Q _=>∃ (g dx hl pl d:Addr) (cn:V) (fo:Vbexai.Form),vs=[.ref g]∧H g=some (.ins C dx (glf fo hl pl cn d))∧fo.w≤6∧fo.h≤6∧Q (.int (fo.w * fo.h:Nat)) H
theorem scCc:FnScope ["self"] ["self"] (defScope sCc):=⟨rfl,rfl,rfl,by decide +kernel,rfl,by decide +kernel,by decide +kernel⟩
theorem ok_cc {f C:Addr} {fd:FuncData} (F:Fun K "cell_count" "Glacier.cell_count" sCc f fd) (T:TxG K C):FnOk P w K mg base CX0 1 f fd ["self"] (spCc C):=by
 refine F.ok scCc (fun vs H Q E h=>?_) (fun cdv A outer s H vs Q E hr h=>?_)
 ·obtain ⟨g,dx,hl,pl,d,cn,fo,rfl,_⟩:=h
  rfl
 ·obtain ⟨g,dx,hl,pl,d,cn,fo,rfl,hg,hw,hh,k⟩:=h
  refine ⟨_,pss_one (ps_ret (pe_op op_mul (pe_fld (pv 0) rfl) (pe_fld (pv 0) rfl))),?_⟩
  refine ⟨_,rfl,g,C,dx,_,_,rfl,hg,T.cl,T.nW,rfl,_,rfl,g,C,dx,_,_,rfl,hg,T.cl,T.nH,rfl,o1 rfl rfl (.inl ⟨by omega,by omega⟩) (congrArg V.int (Int.natCast_mul _ _).symm) k⟩
abbrev sHas:Stmt:=inClass (top 19) 4
def spHas (C:Addr):Sp:=fun vs H Q _=>∃ (g dx hl pl d:Addr) (cn:V) (st:Vbexai.St) (c:Int),vs=[.ref g,.int c]∧H g=some (.ins C dx (glf st.form hl pl cn d))∧FormOk st.form∧Q (.bl (Vbexai.isCell st c)) H
theorem scHas:FnScope ["self","cell"] ["self","cell"] (defScope sHas):=⟨rfl,rfl,rfl,by decide +kernel,rfl,by decide +kernel,by decide +kernel⟩
theorem ok_has {f f1 C:Addr} {fd fd1:FuncData} (F:Fun K "has_cell" "Glacier.has_cell" sHas f fd) (T:TxG K C) (m1:Meth K C "cell_count" f1) (G1:FnOk P w K mg base CX0 1 f1 fd1 ["self"] (spCc C)) (b1:Binds K fd1 ["self"] []) :
  FnOk P w K mg base CX0 2 f fd ["self","cell"] (spHas C):=by
 refine F.ok scHas (fun vs H Q E h=>?_) (fun cdv A outer s H vs Q E hr h=>?_)
 ·obtain ⟨g,dx,hl,pl,d,cn,st,c,rfl,_⟩:=h
  rfl
 ·obtain ⟨g,dx,hl,pl,d,cn,st,c,rfl,hg,fo,k⟩:=h
  refine ⟨_,pss_one (ps_ret (pe_chain op_le op_lt pe_int (pv 1) (pe_meth0 (pv 0) T.cl m1 G1 hr b1 .nil pass0))),?_⟩
  have hwh:=fo.wh1
  refine ⟨_,rfl,_,_,rfl,rfl,_,rfl,ite2 (fun h1=>?_) (fun h1=>?_)⟩
  ·have h1':0≤c:=of_decide_eq_true h1
   refine ⟨_,rfl,g,dx,_,rfl,hg,rfl,g,dx,hl,pl,d,cn,st.form,rfl,hg,fo.w6,fo.h6,o0 rfl rfl ?_ k⟩
   unfold Vbexai.isCell Vbexai.within
   rw [decide_eq_true h1',Bool.true_and]
   congr 1
   by_cases q:c < ((st.form.w * st.form.h:Nat):Int)
   ·rw [decide_eq_true q,decide_eq_true (by omega)]
   ·rw [decide_eq_false q,decide_eq_false (by omega)]
  ·have e:Vbexai.isCell st c=false:=by
    unfold Vbexai.isCell Vbexai.within
    rw [decide_eq_false (fun z=>h1 (decide_eq_true z)),Bool.false_and]
   rw [e] at k
   exact k
abbrev sKp:Stmt:=inClass (top 19) 2
def spKp (C:Addr):Sp:=fun vs H Q _=>∃ (g dx:Addr) (fs:List (Str × V)) (v:V),vs=[.ref g,v]∧H g=some (.ins C dx fs)∧fs.length≤20∧Q .non (upd H g (.ins C dx (putF "counts" .non (putF "possible" v fs))))
theorem scKp:FnScope ["self","numbers"] ["self","numbers"] (defScope sKp):=⟨rfl,rfl,rfl,by decide +kernel,rfl,by decide +kernel,by decide +kernel⟩
theorem ok_kp {f C:Addr} {fd:FuncData} (F:Fun K "keep" "Glacier.keep" sKp f fd) (T:TxG K C):FnOk P w K mg base CX0 1 f fd ["self","numbers"] (spKp C):=by
 refine F.ok scKp (fun vs H Q E h=>?_) (fun cdv A outer s H vs Q E hr h=>?_)
 ·obtain ⟨g,dx,fs,v,rfl,_⟩:=h
  rfl
 ·obtain ⟨g,dx,fs,v,rfl,hg,hlen,k⟩:=h
  refine ⟨_,pss_cons (ps_fld (pv 0) (pv 1) rfl) (pss_one (ps_fld (pv 0) pe_non rfl)),?_⟩
  have:=putF_len "possible" v fs
  refine ⟨_,rfl,_,rfl,g,C,dx,_,rfl,hg,T.cl,T.nP,by omega,?_⟩
  refine ⟨_,rfl,g,C,dx,_,rfl,upd_same,T.cl,T.nC,by omega,?_⟩
  rw [upd_upd]
  exact k
abbrev sLay:Stmt:=inClass (top 19) 1
def LayOk (fs:List (Str × V)):Prop:=(fs.length≤9∧fs.lookup ("keep":Str)=none)∧∀ (fo:Vbexai.Form) (hl d:Addr),putF "finds" (.ref d) (putF "counts" .non (putF "possible" (.ref hl) (putF "hidden" (.ref hl) (putF "many" (.int fo.many) (putF "most" (.int fo.most) (putF "least" (.int fo.least) (putF "height" (.int fo.h) (putF "width" (.int fo.w) fs))))))))=glf fo hl hl .non d
theorem layOk_nil:LayOk []:=⟨⟨by decide,rfl⟩,fun _ _ _=>rfl⟩
theorem layOk_glf (fo:Vbexai.Form) (hl pl d:Addr) (cn:V):LayOk (glf fo hl pl cn d):=⟨⟨by show 9≤9; decide,rfl⟩,fun _ _ _=>rfl⟩
def spLay (C:Addr):Sp:=fun vs H Q _=>∃ (g dx:Addr) (fs:List (Str × V)) (fo:Vbexai.Form),vs=[.ref g,.int fo.w,.int fo.h,.int fo.least,.int fo.most,.int fo.many]∧FormOk fo∧H g=some (.ins C dx fs)∧LayOk fs∧
 ∀ (H':Hp) (hl d:Addr),SameX g H H'→GlA C H' g dx hl hl d .non (Vbexai.made fo [])→Q .non H'
theorem scLay:FnScope ["self","width","height","least","most","many"] ["self","width","height","least","most","many"] (defScope sLay):=⟨rfl,rfl,rfl,by decide +kernel,rfl,by decide +kernel,by decide +kernel⟩
theorem ok_lay {f f1 f2 C:Addr} {fd fd1 fd2:FuncData} (F:Fun K "lay" "Glacier.lay" sLay f fd) (T:TxG K C)
  (G1:FnOk P w K mg base CX0 3 f1 fd1 ["width","height","least","most","many"] spHid) (k1:PySem.W.keepIn K (.ref f1)=true) (b1:Binds K fd1 ["width","height","least","most","many"] []) (g1:mg "hidden_fields"=some (.ref f1))
  (m2:Meth K C "keep" f2) (G2:FnOk P w K mg base CX0 1 f2 fd2 ["self","numbers"] (spKp C)) (b2:Binds K fd2 ["self","numbers"] []) :
  FnOk P w K mg base CX0 4 f fd ["self","width","height","least","most","many"] (spLay C):=by
 refine F.ok scLay (fun vs H Q E h=>?_) (fun cdv A outer s H vs Q E hr h=>?_)
 ·obtain ⟨g,dx,fs,fo,rfl,_⟩:=h
  rfl
 ·obtain ⟨g,dx,fs,fo,rfl,fok,hg,⟨⟨hlen,hkp⟩,hfs⟩,k⟩:=h
  have hr1:Room 1 _:=hr.mono (by decide)
  refine ⟨_,pss_cons (ps_fld (pv 0) (pv 1) rfl) (pss_cons (ps_fld (pv 0) (pv 2) rfl) (pss_cons (ps_fld (pv 0) (pv 3) rfl) (pss_cons (ps_fld (pv 0) (pv 4) rfl) (pss_cons (ps_fld (pv 0) (pv 5) rfl)
   (pss_cons (ps_fld (pv 0) (pe_call G1 hr rfl g1 k1 b1 .nil pass0 (pa_cons (pv 1) (pa_cons (pv 2) (pa_cons (pv 3) (pa_cons (pv 4) (pa_cons (pv 5) pa_nil)))))) rfl)
   (pss_cons (ps_expr (pe_meth (pv 0) T.cl m2 G2 hr1 b2 .nil pass0 (pa_cons (pe_fld (pv 0) rfl) pa_nil)))
   (pss_one (ps_fld (pv 0) pe_dnewK rfl)))))))),?_⟩
  generalize e1:putF "width" (V.int fo.w) fs=fs1
  generalize e2:putF "height" (V.int fo.h) fs1=fs2
  generalize e3:putF "least" (V.int fo.least) fs2=fs3
  generalize e4:putF "most" (V.int fo.most) fs3=fs4
  generalize e5:putF "many" (V.int fo.many) fs4=fs5
  have l1:fs1.length≤10:=by rw [← e1]; have:=putF_len "width" (V.int fo.w) fs; omega
  have l2:fs2.length≤11:=by rw [← e2]; have:=putF_len "height" (V.int fo.h) fs1; omega
  have l3:fs3.length≤12:=by rw [← e3]; have:=putF_len "least" (V.int fo.least) fs2; omega
  have l4:fs4.length≤13:=by rw [← e4]; have:=putF_len "most" (V.int fo.most) fs3; omega
  have l5:fs5.length≤14:=by rw [← e5]; have:=putF_len "many" (V.int fo.many) fs4; omega
  refine ⟨_,rfl,_,rfl,g,C,dx,_,rfl,hg,T.cl,T.nW,by omega,?_⟩
  rw [e1]
  refine ⟨_,rfl,_,rfl,g,C,dx,_,rfl,upd_same,T.cl,T.nH,by omega,?_⟩
  rw [upd_upd,e2]
  refine ⟨_,rfl,_,rfl,g,C,dx,_,rfl,upd_same,T.cl,T.nL,by omega,?_⟩
  rw [upd_upd,e3]
  refine ⟨_,rfl,_,rfl,g,C,dx,_,rfl,upd_same,T.cl,T.nM,by omega,?_⟩
  rw [upd_upd,e4]
  refine ⟨_,rfl,_,rfl,g,C,dx,_,rfl,upd_same,T.cl,T.nY,by omega,?_⟩
  rw [upd_upd,e5]
  refine ⟨_,rfl,_,rfl,_,rfl,_,rfl,_,rfl,fo,fok,rfl,fun H2 hl S2 nl hl2 hwl=>?_⟩
  have ngl:g ≠ hl:=ne_of_none (o:=.ins C dx fs5) upd_same nl
  generalize e6:putF "hidden" (V.ref hl) fs5=fs6
  have l6:fs6.length≤15:=by rw [← e6]; have:=putF_len "hidden" (V.ref hl) fs5; omega
  refine ⟨_,rfl,g,C,dx,_,rfl,S2 _ _ upd_same,T.cl,T.nI,by omega,?_⟩
  rw [e6]
  have look:fs6.lookup ("hidden":Str)=some (.ref hl):=by rw [← e6,lookup_putF,if_pos rfl]
  refine ⟨_,rfl,g,dx,_,rfl,upd_same,?_,_,rfl,g,C,dx,_,_,rfl,upd_same,T.cl,T.nI,look,g,dx,fs6,.ref hl,rfl,upd_same,by omega,?_⟩
  ·rw [← e6,lookup_putF,if_neg (by decide +kernel),← e5,lookup_putF,if_neg (by decide +kernel),← e4,lookup_putF,if_neg (by decide +kernel),← e3,lookup_putF,if_neg (by decide +kernel),← e2,lookup_putF,if_neg (by decide +kernel),← e1,lookup_putF,if_neg (by decide +kernel)]
   exact hkp
  ·rw [upd_upd]
   intro d hd
   have ngd:g ≠ d:=ne_of_none (o:=.ins C dx (putF "counts" .non (putF "possible" (.ref hl) fs6))) upd_same hd
   have nld:hl ≠ d:=ne_of_none (o:=.lst (ofs (Vbexai.worlds fo))) (by rw [upd_ne (fun e=>ngl e.symm)]; exact hl2) hd
   have l7:=putF_len "possible" (V.ref hl) fs6
   have l8:=putF_len "counts" V.non (putF "possible" (V.ref hl) fs6)
   refine ⟨_,rfl,g,C,dx,_,rfl,(by rw [upd_ne ngd,upd_same]),T.cl,T.nF,by omega,?_⟩
   have ef:putF "finds" (V.ref d) (putF "counts" V.non (putF "possible" (V.ref hl) fs6))=glf fo hl hl .non d:=by rw [← e6,← e5,← e4,← e3,← e2,← e1]; exact hfs fo hl d
   rw [ef]
   refine k _ hl d (fun b o e hb=>?_) ⟨upd_same,?_,?_,.inl rfl,?_,made_ok fok hwl⟩
   ·rw [upd_ne hb,upd_ne (fun z=>?_),upd_ne hb]
    ·exact S2 b o (by rw [upd_ne hb]; exact e)
    ·rw [z] at e hb
     have q:=S2 d o (by rw [upd_ne hb]; exact e)
     rw [upd_ne hb,q] at hd
     cases hd
   ·rw [upd_ne (fun e=>ngl e.symm),upd_ne nld,upd_ne (fun e=>ngl e.symm)]
    exact hl2
   ·rw [upd_ne (fun e=>ngl e.symm),upd_ne nld,upd_ne (fun e=>ngl e.symm),made_left]
    exact hl2
   ·rw [upd_ne (fun e=>ngd e.symm),upd_same]
    rfl
abbrev sGi:Stmt:=inClass (top 19) 0
def spGi (C:Addr):Sp:=fun vs H Q _=>∃ (g dx:Addr),vs=[.ref g]∧H g=some (.ins C dx [])∧∀ (H':Hp),SameX g H H'→GlAt C H' g Vbexai.start→Q .non H'
theorem scGi:FnScope ["self"] ["self"] (defScope sGi):=⟨rfl,rfl,rfl,by decide +kernel,rfl,by decide +kernel,by decide +kernel⟩
theorem ok_gi {f f1 C:Addr} {fd fd1:FuncData} (F:Fun K "__init__" "Glacier.__init__" sGi f fd) (T:TxG K C) (m1:Meth K C "lay" f1)
  (G1:FnOk P w K mg base CX0 4 f1 fd1 ["self","width","height","least","most","many"] (spLay C)) (b1:Binds K fd1 ["self","width","height","least","most","many"] []) :
  FnOk P w K mg base CX0 5 f fd ["self"] (spGi C):=by
 refine F.ok scGi (fun vs H Q E h=>?_) (fun cdv A outer s H vs Q E hr h=>?_)
 ·obtain ⟨g,dx,rfl,_⟩:=h
  rfl
 ·obtain ⟨g,dx,rfl,hg,k⟩:=h
  refine ⟨_,pss_one (ps_expr (pe_meth (pv 0) T.cl m1 G1 hr b1 .nil pass0 (pa_cons pe_int (pa_cons pe_int (pa_cons pe_int (pa_cons pe_int (pa_cons pe_int pa_nil))))))),?_⟩
  refine ⟨_,rfl,g,dx,_,rfl,hg,rfl,g,dx,[],⟨1,1,1,1,0⟩,rfl,⟨by decide,by decide,by decide,by decide,by decide,by decide,by decide,by decide⟩,hg,layOk_nil,fun H' hl d S h=>?_⟩
  exact k H' S ⟨dx,hl,hl,d,.non,h⟩
end
end Rp
namespace Rp
open PySem PySem.Spec PyProof.Rows L2
theorem fnd_len (fs:List Vbexai.Find):(fnd fs).length=fs.length:=by unfold fnd; rw [List.length_map]
theorem fnd_val (fs:List Vbexai.Find) (c:Nat):(valV (fnd fs) (Sum.inl (c:Int))).isSome=decide (c ∈ fs.map (·.1)):=by
 induction fs with
 |nil=>rfl
 |cons p l ih=>
  have e0:fnd (p::l)=(Sum.inl (p.1:Int),V.int (Vbexai.bit p.2))::fnd l:=rfl
  rw [e0]
  by_cases e:p.1=c
  ·rw [valV_pos (by show (Sum.inl (p.1:Int):Key)=_; rw [e])]
   simp [e]
  ·have e1:¬ (Sum.inl (p.1:Int):Key)=Sum.inl (c:Int):=fun q=>e (by have:=Sum.inl.inj q; omega)
   rw [valV_neg e1,ih,List.map_cons]
   have e':¬ c=p.1:=fun z=>e z.symm
   simp [e']
theorem fnd_put (fs:List Vbexai.Find) (c:Nat) (b:Bool) (h:c ∉ fs.map (·.1)):putK (fnd fs) (Sum.inl (c:Int)) (V.int (Vbexai.bit b))=fnd (fs ++ [(c,b)]):=by
 rw [putK_new]
 ·unfold fnd; rw [List.map_append]; rfl
 ·have q:=fnd_val fs c
  rw [decide_eq_false h] at q
  cases e:valV (fnd fs) (Sum.inl (c:Int)) with
  |none=>rfl
  |some v=>rw [e] at q; cases q
theorem fnd_drop (fs:List Vbexai.Find) (c:Nat):dropK (fnd fs) (Sum.inl (c:Int))=fnd (fs.filter fun p=>p.1 != c):=by
 induction fs with
 |nil=>rfl
 |cons p l ih=>
  have e0:fnd (p::l)=(Sum.inl (p.1:Int),V.int (Vbexai.bit p.2))::fnd l:=rfl
  rw [e0,List.filter_cons]
  by_cases e:p.1=c
  ·rw [dropK_pos (by show (Sum.inl (p.1:Int):Key)=_; rw [e]),if_neg (by simp [e]),ih]
  ·have e1:¬ (Sum.inl (p.1:Int):Key)=Sum.inl (c:Int):=fun q=>e (by have:=Sum.inl.inj q; omega)
   rw [dropK_neg e1,if_pos (by simp [e]),ih]
   rfl
theorem fnd_get {fs:List Vbexai.Find} {i:Nat} {k:Key} {v:V} (h:(fnd fs)[i]?=some (k,v)):∃ p,fs[i]?=some p∧k=Sum.inl (p.1:Int)∧v=.int (Vbexai.bit p.2):=by
 unfold fnd at h
 rw [List.getElem?_map] at h
 cases e:fs[i]? with
 |none=>rw [e] at h; cases h
 |some r=>
  rw [e] at h
  have:=Option.some.inj h
  exact ⟨r,rfl,(Prod.mk.inj this).1.symm,(Prod.mk.inj this).2.symm⟩
theorem finds_len {st:Vbexai.St} (h:StOk st):st.finds.length≤36:=by
 have q:=nodup_le (st.form.w * st.form.h) (st.finds.map (·.1)) h.nd fun x hx=>by
  obtain ⟨p,hp,rfl⟩:=List.mem_map.mp hx
  exact h.lt p hp
 rw [List.length_map] at q
 have:=h.fo.wh
 omega
section
variable {P:Program} {w:World} {K:PySem.W.Frag} {mg:Str→Option Value} {base:Heap}
abbrev sCp:Stmt:=inClass (top 19) 5
def spCp (C:Addr):Sp:=fun vs H Q _=>∃ (g dx hl pl d:Addr) (cn:V) (st:Vbexai.St),vs=[.ref g]∧GlA C H g dx hl pl d cn st∧
 ∀ (H':Hp) (p:Addr),Same H H'→H p=none→H' p=some (.lst (ofs (Vbexai.unfound st)))→Q (.ref p) H'
theorem scCp:FnScope ["self","cell"] ["self"] (defScope sCp):=⟨rfl,rfl,rfl,by decide +kernel,rfl,by decide +kernel,by decide +kernel⟩
theorem ok_cp {f f1 C:Addr} {fd fd1:FuncData} (F:Fun K "cells_to_probe" "Glacier.cells_to_probe" sCp f fd) (T:TxG K C) (B:Blt mg) (m1:Meth K C "cell_count" f1) (G1:FnOk P w K mg base CX0 1 f1 fd1 ["self"] (spCc C)) (b1:Binds K fd1 ["self"] []) :
  FnOk P w K mg base CX0 2 f fd ["self"] (spCp C):=by
 refine F.ok scCp (fun vs H Q E h=>?_) (fun cdv A outer s H vs Q E hr h=>?_)
 ·obtain ⟨g,dx,hl,pl,d,cn,st,rfl,_⟩:=h
  rfl
 ·obtain ⟨g,dx,hl,pl,d,cn,st,rfl,hG,k⟩:=h
  have nd:=scCp.nd
  have hu:=hu_of hr
  refine ⟨_,pss_one (ps_ret (pe_lc rfl nd (pi_range1 rfl B.range (pa_cons (pe_meth0 (pv 0) T.cl m1 G1 hr b1 .nil pass0) pa_nil)) (blkOk_by (own:=[("cell",1)]) (by show blkC ["self","cell"] (defScope sCp) _ _=true; decide +kernel))
   (fun _ _ _ _ _=>pg_name (i:=1) nd rfl (Or.inl rfl)) (fun _ _ _ _ _=>pts_one (pt_cmp (pc_dnotin hu (pv 1) (pe_fldK K rfl (pv 0) rfl)))) (fun _ _ _ _ _=>pv 1))),?_⟩
  have fo:=hG.ok.fo
  have hwh:=fo.wh
  refine ⟨_,rfl,g,dx,_,rfl,hG.at_,rfl,g,dx,hl,pl,d,cn,st.form,rfl,hG.at_,fo.w6,fo.h6,_,rfl,by omega,by omega,fun D hD=>?_⟩
  rw [Int.toNat_natCast]
  have e0:=unfound_eq st
  refine lc_range (n:=st.form.w * st.form.h) (fun i H'=>Same H H'∧H' D=some (.lst (ofs ((List.range i).filter fun c=>decide (c ∉ st.finds.map (·.1)))))) ⟨(Same.refl H).new hD,upd_same⟩ ?_ ?_
  ·rintro i H' hi ⟨S,hd⟩
   have e1:(0:Int) + (i:Int)=(i:Int):=by omega
   rw [e1]
   refine ⟨rfl,_,rfl,_,rfl,g,C,dx,_,_,rfl,S _ _ hG.at_,T.cl,T.nF,rfl,d,_,rfl,DGet.k (k:=Sum.inl (i:Int)) (S _ _ hG.fin),_,rfl,?_⟩
   rw [fnd_val]
   have ed:(!decide (i ∈ st.finds.map (·.1)))=decide (i ∉ st.finds.map (·.1)):=by simp
   rw [ed]
   refine ite2 (fun hb=>?_) (fun hb=>?_)
   ·refine ⟨_,rfl,_,hd,?_,S.up hD,?_⟩
    ·rw [ofs_len]
     have l1:=List.length_filter_le (fun c=>decide (c ∉ st.finds.map (·.1))) (List.range i)
     rw [List.length_range] at l1
     exact nsize (by omega)
    ·rw [upd_same,List.range_succ,List.filter_append,List.filter_cons,if_pos hb,List.filter_nil]
     unfold ofs
     rw [List.map_append]; rfl
   ·refine ⟨S,?_⟩
    rw [List.range_succ,List.filter_append,List.filter_cons,if_neg hb,List.filter_nil,List.append_nil]
    exact hd
  ·rintro H' ⟨S,hd⟩
   rw [← e0] at hd
   exact k H' D S hD hd
abbrev sAf:Stmt:=inClass (top 19) 6
def spAf (C:Addr):Sp:=fun vs H Q _=>∃ (g dx hl pl d:Addr) (cn:V) (st:Vbexai.St) (c:Nat) (b:Bool),vs=[.ref g,.int c,.int (Vbexai.bit b)]∧GlA C H g dx hl pl d cn st∧c < st.form.w * st.form.h∧c ∉ st.finds.map (·.1)∧(st.left.filter fun x=>Vbexai.hole x c == b) ≠ []∧
 ∀ (H':Hp) (pl':Addr),Keep H H'→GlA C H' g dx hl pl' d .non { st with finds:=st.finds ++ [(c,b)],left:=st.left.filter fun x=>Vbexai.hole x c == b }→Q .non H'
theorem scAf:FnScope ["self","cell","value"] ["self","cell","value"] (defScope sAf):=⟨rfl,rfl,rfl,by decide +kernel,rfl,by decide +kernel,by decide +kernel⟩
theorem ok_af {f f1 f2 C:Addr} {fd fd1 fd2:FuncData} (F:Fun K "add_find" "Glacier.add_find" sAf f fd) (T:TxG K C)
  (G1:FnOk P w K mg base CX0 1 f1 fd1 ["numbers","cell","value"] (spAgr K)) (k1:PySem.W.keepIn K (.ref f1)=true) (b1:Binds K fd1 ["numbers","cell","value"] []) (g1:mg "agreeing"=some (.ref f1))
  (m2:Meth K C "keep" f2) (G2:FnOk P w K mg base CX0 1 f2 fd2 ["self","numbers"] (spKp C)) (b2:Binds K fd2 ["self","numbers"] []):FnOk P w K mg base CX0 2 f fd ["self","cell","value"] (spAf C):=by
 refine F.ok scAf (fun vs H Q E h=>?_) (fun cdv A outer s H vs Q E hr h=>?_)
 ·obtain ⟨g,dx,hl,pl,d,cn,st,c,b,rfl,_⟩:=h
  rfl
 ·obtain ⟨g,dx,hl,pl,d,cn,st,c,b,rfl,hG,hc,hn,hne,k⟩:=h
  have hu:=hu_of hr
  refine ⟨_,pss_cons (ps_dput hu (pe_fld (pv 0) rfl) (pv 1) (pv 2) rfl)
   (pss_one (ps_expr (pe_meth (pv 0) T.cl m2 G2 hr b2 .nil pass0 (pa_cons (pe_call G1 hr rfl g1 k1 b1 .nil pass0 (pa_cons (pe_fld (pv 0) rfl) (pa_cons (pv 1) (pa_cons (pv 2) pa_nil)))) pa_nil)))),?_⟩
  have ngd:g ≠ d:=ne_of hG.at_ hG.fin (by intro z; cases z)
  have nld:hl ≠ d:=ne_of hG.hid hG.fin (by intro z; cases z)
  have npd:pl ≠ d:=ne_of hG.pos hG.fin (by intro z; cases z)
  have hfl:=finds_len hG.ok
  refine ⟨_,rfl,_,rfl,g,C,dx,_,_,rfl,hG.at_,T.cl,T.nF,rfl,_,rfl,d,_,rfl,DPut.k (k:=Sum.inl (c:Int)) hG.fin (by rw [fnd_len]; exact nsize (by omega)),?_⟩
  rw [fnd_put _ _ _ hn]
  have hg1:(upd H d (.dK (fnd (st.finds ++ [(c,b)])))) g=some (.ins C dx (glf st.form hl pl cn d)):=by rw [upd_ne ngd]; exact hG.at_
  refine ⟨_,rfl,g,dx,_,rfl,hg1,rfl,_,rfl,g,C,dx,_,_,rfl,hg1,T.cl,T.nP,rfl,_,rfl,_,rfl,pl,st.left,c,b,rfl,SqL.of (by rw [upd_ne npd]; exact hG.pos),hG.ok.left_len,fun H2 p S2 np hp=>?_⟩
  have hg2:=S2 _ _ hg1
  have ngp:g ≠ p:=ne_of_none hg1 np
  have e1:Keep H H2:=((Same.refl H).keep.dict hG.fin).trans S2.keep
  refine ⟨g,dx,_,.ref p,rfl,hg2,(by show 9≤20; decide),?_⟩
  refine k _ p (e1.ins hg2) ⟨upd_same,?_,?_,.inl rfl,?_,found_ok hG.ok hc hn hne⟩
  ·rw [upd_ne (ne_of (S2 _ _ (by rw [upd_ne nld]; exact hG.hid)) hg2 (by intro z; cases z))]
   exact S2 _ _ (by rw [upd_ne nld]; exact hG.hid)
  ·rw [upd_ne (fun e=>ngp e.symm)]; exact hp
  ·rw [upd_ne (fun e=>ngd e.symm)]
   exact S2 _ _ upd_same
abbrev sDf:Stmt:=inClass (top 19) 7
def spDf (C:Addr):Sp:=fun vs H Q _=>∃ (g dx hl pl d:Addr) (cn:V) (st:Vbexai.St) (c:Nat),vs=[.ref g,.int c]∧GlA C H g dx hl pl d cn st∧c ∈ st.finds.map (·.1)∧
 ∀ (H':Hp) (pl':Addr),Keep H H'→GlA C H' g dx hl pl' d .non (Vbexai.made st.form (st.finds.filter fun p=>p.1 != c))→Q .non H'
theorem scDf:FnScope ["self","cell","left","other","value"] ["self","cell"] (defScope sDf):=⟨rfl,rfl,rfl,by decide +kernel,rfl,by decide +kernel,by decide +kernel⟩
theorem ok_df {f f1 f2 C:Addr} {fd fd1 fd2:FuncData} (F:Fun K "drop_find" "Glacier.drop_find" sDf f fd) (T:TxG K C)
  (G1:FnOk P w K mg base CX0 1 f1 fd1 ["numbers","cell","value"] (spAgr K)) (k1:PySem.W.keepIn K (.ref f1)=true) (b1:Binds K fd1 ["numbers","cell","value"] []) (g1:mg "agreeing"=some (.ref f1))
  (m2:Meth K C "keep" f2) (G2:FnOk P w K mg base CX0 1 f2 fd2 ["self","numbers"] (spKp C)) (b2:Binds K fd2 ["self","numbers"] []):FnOk P w K mg base CX0 2 f fd ["self","cell"] (spDf C):=by
 refine F.ok scDf (fun vs H Q E h=>?_) (fun cdv A outer s H vs Q E hr h=>?_)
 ·obtain ⟨g,dx,hl,pl,d,cn,st,c,rfl,_⟩:=h
  rfl
 ·obtain ⟨g,dx,hl,pl,d,cn,st,c,rfl,hG,hc,k⟩:=h
  have nd:=scDf.nd
  refine ⟨_,pss_cons (ps_expr (pe_dpop1 (pe_fld (pv 0) rfl) (pv 1) ⟨rfl,rfl,rfl,rfl⟩))
   (pss_cons (ps_set (i:=2) nd rfl (Or.inl rfl) (pe_fld (pv 0) rfl))
   (pss_cons (ps_lock (ps_for PassesOwn.never rfl (pi_items (pe_fld (pv 0) rfl)) (pg_tup rfl (pgs_cons (pg_name (i:=3) nd rfl (Or.inl rfl)) (pgs_cons (pg_name (i:=4) nd rfl (Or.inl rfl)) pgs_nil)))
    (pss_one (ps_set (i:=2) nd rfl (Or.inl rfl) (pe_call G1 hr rfl g1 k1 b1 .nil pass0 (pa_cons (pv 2) (pa_cons (pv 3) (pa_cons (pv 4) pa_nil))))))))
   (pss_one (ps_expr (pe_meth (pv 0) T.cl m2 G2 hr b2 .nil pass0 (pa_cons (pv 2) pa_nil)))))),?_⟩
  have ngd:g ≠ d:=ne_of hG.at_ hG.fin (by intro z; cases z)
  have nld:hl ≠ d:=ne_of hG.hid hG.fin (by intro z; cases z)
  generalize efs:st.finds.filter (fun p=>p.1 != c)=fs at k
  have hfd:=fnd_drop st.finds c
  rw [efs] at hfd
  obtain ⟨v,hv⟩:∃ v,valV (fnd st.finds) (Sum.inl (c:Int))=some v:=by
   have q:=fnd_val st.finds c
   rw [decide_eq_true hc] at q
   cases e:valV (fnd st.finds) (Sum.inl (c:Int)) with
   |none=>rw [e] at q; cases q
   |some v=>exact ⟨v,rfl⟩
  refine ⟨_,rfl,g,C,dx,_,_,rfl,hG.at_,T.cl,T.nF,rfl,d,rfl,.inl ⟨_,.inl hG.fin⟩,_,rfl,_,Sum.inl (c:Int),v,hG.fin,rfl,hv,?_⟩
  rw [hfd]
  generalize eH1:upd H d (.dK (fnd fs))=H1
  have hg1:H1 g=some (.ins C dx (glf st.form hl pl cn d)):=by rw [← eH1,upd_ne ngd]; exact hG.at_
  have hh1:H1 hl=some (.lst (ofs (Vbexai.worlds st.form))):=by rw [← eH1,upd_ne nld]; exact hG.hid
  have hd1:H1 d=some (.dK (fnd fs)):=by rw [← eH1]; exact upd_same
  have K1:Keep H H1:=by rw [← eH1]; exact (Same.refl H).keep.dict hG.fin
  refine ⟨_,rfl,g,C,dx,_,_,rfl,hg1,T.cl,T.nI,rfl,?_⟩
  refine ⟨d,_,hd1,trivial,fun od=>⟨_,rfl,g,C,dx,_,_,rfl,(by rw [upd_ne ngd]; exact hg1),T.cl,T.nF,rfl,d,od,_,rfl,upd_same,?_⟩⟩
  refine for_it (n:=fs.length) (fun i σ H'=>∃ (l:Addr) (v3 v4:Option V),σ=[some (.ref g),some (.int c),some (.ref l),v3,v4]∧SameX d H1 H'∧H' d=some (.frz od (.dK (fnd fs)))∧H' l=some (.lst (ofs ((Vbexai.worlds st.form).filter fun x=>Vbexai.agrees x (fs.take i)))))
   ⟨hl,none,none,rfl,SameX.of (Same.refl H1),upd_same,?_⟩ ?_ ?_ ?_ ?_
  ·rw [upd_ne nld,hh1]
   have e:(Vbexai.worlds st.form).filter (fun x=>Vbexai.agrees x (fs.take 0))=Vbexai.worlds st.form:=List.filter_eq_self.mpr fun _ _=>by rw [List.take_zero]; rfl
   rw [e]
  ·rintro i σ H2 hi ⟨l,v3,v4,rfl,S2,h1,h2⟩
   exact ⟨h1,by rw [fnd_len]; exact hi⟩
  ·rintro σ H2 ⟨l,v3,v4,rfl,S2,h1,h2⟩
   exact ⟨h1,by rw [fnd_len]; exact Nat.le_refl _⟩
  ·rintro i σ H2 y H3 hi ⟨l,v3,v4,rfl,S2,h1,h2⟩ ⟨tT,key,v,hy,rfl,nT,rfl⟩
   obtain ⟨r,hr',rfl,rfl⟩:=fnd_get hy
   have S3:=S2.new (f:=.tup [kV (Sum.inl (r.1:Int)),.int (Vbexai.bit r.2)]) nT
   have nTd:tT ≠ d:=fun e=>by rw [e,h1] at nT; cases nT
   have nTl:l ≠ tT:=ne_of_none h2 nT
   have hl3:(Vbexai.worlds st.form).length≤100000:=hG.ok.len
   refine ⟨tT,_,rfl,SqT.of upd_same,rfl,_,_,rfl,_,_,rfl,rfl,?_⟩
   refine ⟨_,rfl,_,rfl,_,rfl,l,_,r.1,r.2,rfl,SqL.of (by rw [upd_ne nTl]; exact h2),Nat.le_trans (List.length_filter_le _ _) hl3,fun H4 p S4 np hp=>?_⟩
   refine ⟨p,_,_,rfl,S3.then S4,S4 _ _ (by rw [upd_ne (fun e=>nTd e.symm)]; exact h1),?_⟩
   rw [hp,List.filter_filter,take_snoc hr']
   congr 3
   apply List.filter_congr
   intro x _
   rw [agrees_snoc,Bool.and_comm]
  ·rintro σ H2 ⟨l,v3,v4,rfl,S2,h1,h2⟩
   rw [List.take_length] at h2
   refine ⟨h1,?_⟩
   have S5:=S2.back hd1
   have hg5:=S5 _ _ hg1
   have ngl:l ≠ d:=fun e=>by rw [e,h1] at h2; cases h2
   have h25:(upd H2 d (.dK (fnd fs))) l=some (.lst (ofs ((Vbexai.worlds st.form).filter fun x=>Vbexai.agrees x fs))):=by rw [upd_ne ngl]; exact h2
   refine ⟨_,rfl,g,dx,_,rfl,hg5,rfl,_,rfl,g,dx,_,.ref l,rfl,hg5,(by show 9≤20; decide),?_⟩
   have hst:=undo_ok hG.ok c
   rw [efs] at hst
   refine k _ l ((K1.trans S5.keep).ins hg5) ⟨upd_same,?_,?_,.inl rfl,?_,hst⟩
   ·rw [upd_ne (ne_of (S5 _ _ hh1) hg5 (by intro z; cases z))]
    exact S5 _ _ hh1
   ·rw [upd_ne (ne_of h25 hg5 (by intro z; cases z))]
    exact h25
   ·rw [upd_ne (fun e=>ngd e.symm)]
    exact S5 _ _ hd1
abbrev sCh:Stmt:=inClass (top 19) 8
def spCh (C:Addr):Sp:=fun vs H Q _=>∃ (g:Addr) (st:Vbexai.St),vs=[.ref g]∧GlAt C H g st∧
 ∀ (H':Hp) (p:Addr),Keep H H'→GlAt C H' g st→H' p=some (.lst (ofs (cnts st.left (st.form.w * st.form.h))))→Q (.ref p) H'
theorem scCh:FnScope ["self"] ["self"] (defScope sCh):=⟨rfl,rfl,rfl,by decide +kernel,rfl,by decide +kernel,by decide +kernel⟩
theorem ok_ch {f f1 f2 C:Addr} {fd fd1 fd2:FuncData} (F:Fun K "counted_holes" "Glacier.counted_holes" sCh f fd) (T:TxG K C)
  (G1:FnOk P w K mg base CX0 2 f1 fd1 ["numbers","cell_count"] (spHc K)) (k1:PySem.W.keepIn K (.ref f1)=true) (b1:Binds K fd1 ["numbers","cell_count"] []) (g1:mg "hole_counts"=some (.ref f1))
  (m2:Meth K C "cell_count" f2) (G2:FnOk P w K mg base CX0 1 f2 fd2 ["self"] (spCc C)) (b2:Binds K fd2 ["self"] []):FnOk P w K mg base CX0 3 f fd ["self"] (spCh C):=by
 refine F.ok scCh (fun vs H Q E h=>?_) (fun cdv A outer s H vs Q E hr h=>?_)
 ·obtain ⟨g,st,rfl,_⟩:=h
  rfl
 ·obtain ⟨g,st,rfl,⟨dx,hl,pl,d,cn,hG⟩,k⟩:=h
  have hr1:Room 1 _:=hr.mono (by decide)
  refine ⟨_,pss_cons (ps_if (pt_cmp (pc_isN (pe_fld (pv 0) rfl))) (pss_one (ps_fld (pv 0) (pe_call G1 hr rfl g1 k1 b1 .nil pass0 (pa_cons (pe_fld (pv 0) rfl) (pa_cons (pe_meth0 (pv 0) T.cl m2 G2 hr1 b2 .nil pass0) pa_nil))) rfl)) pss_nil)
   (pss_one (ps_ret (pe_fld (pv 0) rfl))),?_⟩
  have fo:=hG.ok.fo
  have hwh:=fo.wh
  rcases hG.cnt with e | ⟨c,e,hc⟩
  ·subst e
   refine ⟨_,rfl,g,C,dx,_,_,rfl,hG.at_,T.cl,T.nC,rfl,_,rfl,iteT ?_⟩
   refine ⟨_,rfl,g,C,dx,_,_,rfl,hG.at_,T.cl,T.nP,rfl,_,rfl,g,dx,_,rfl,hG.at_,rfl,g,dx,hl,pl,d,.non,st.form,rfl,hG.at_,fo.w6,fo.h6,pl,st.left,st.form.w * st.form.h,rfl,SqL.of hG.pos,by omega,hG.ok.left_lt,fun H2 p S2 np hp=>?_⟩
   have G2':=hG.same S2
   have ngp:g ≠ p:=ne_of_none hG.at_ np
   refine ⟨_,rfl,g,C,dx,_,rfl,G2'.at_,T.cl,T.nC,(by show 9 < 1000; decide),?_⟩
   refine ⟨_,rfl,g,C,dx,_,_,rfl,upd_same,T.cl,T.nC,rfl,?_⟩
   have hp':(upd H2 g (.ins C dx (putF "counts" (.ref p) (glf st.form hl pl .non d)))) p=some (.lst (ofs (cnts st.left (st.form.w * st.form.h)))):=by rw [upd_ne (fun e=>ngp e.symm)]; exact hp
   refine k _ p (S2.keep.ins G2'.at_) ⟨dx,hl,pl,d,.ref p,upd_same,?_,?_,.inr ⟨p,rfl,hp'⟩,?_,hG.ok⟩ hp'
   ·rw [upd_ne (ne_of G2'.hid G2'.at_ (by intro z; cases z))]; exact G2'.hid
   ·rw [upd_ne (ne_of G2'.pos G2'.at_ (by intro z; cases z))]; exact G2'.pos
   ·rw [upd_ne (ne_of G2'.fin G2'.at_ (by intro z; cases z))]; exact G2'.fin
  ·subst e
   refine ⟨_,rfl,g,C,dx,_,_,rfl,hG.at_,T.cl,T.nC,rfl,_,rfl,iteF ?_⟩
   refine ⟨_,rfl,g,C,dx,_,_,rfl,hG.at_,T.cl,T.nC,rfl,?_⟩
   exact k H c (Same.refl H).keep ⟨dx,hl,pl,d,.ref c,hG⟩ hc
end
end Rp
namespace Rp
open PySem PySem.Spec PyProof.Rows L2
def Num (mg:Str→Option Value) (x:Str) (i:Int):Prop:=∃ u,mg x=some u∧RelV (.int i) u
theorem bit_is (x c:Nat) (b:Bool):decide (V.int (Builtin.bitAnd ((x:Int) / 2 ^ (c:Int).toNat) 1)=V.int (Vbexai.bit b))=(x.testBit c == b):=by
 rw [dec_int,Int.toNat_natCast,bit_test,hole_eq]
section
variable {P:Program} {w:World} {K:PySem.W.Frag} {mg:Str→Option Value} {base:Heap}
abbrev sKn:Stmt:=inClass (top 19) 9
def stats (st:Vbexai.St) (n:Nat):List Nat:=(List.range n).map (Vbexai.statusOf st)
def spKn (C:Addr):Sp:=fun vs H Q _=>∃ (g dx hl pl d:Addr) (cn:V) (st:Vbexai.St),vs=[.ref g]∧GlA C H g dx hl pl d cn st∧
 ∀ (H':Hp) (p:Addr),Same H H'→H p=none→H' p=some (.lst (ofs (stats st (st.form.w * st.form.h))))→Q (.ref p) H'
theorem scKn:FnScope ["self","ever","always","number","known","cell"] ["self"] (defScope sKn):=⟨rfl,rfl,rfl,by decide +kernel,rfl,by decide +kernel,by decide +kernel⟩
theorem ok_kn {f f1 f2 C:Addr} {fd fd1 fd2:FuncData} (F:Fun K "knowledge" "Glacier.knowledge" sKn f fd) (T:TxG K C) (B:Blt mg) (c0:Num mg "FIRM" 0) (c1:Num mg "HOLE" 1) (c2:Num mg "UNKNOWN" 2)
  (G1:FnOk P w K mg base CX0 1 f1 fd1 ["numbers"] (spEver K)) (k1:PySem.W.keepIn K (.ref f1)=true) (b1:Binds K fd1 ["numbers"] []) (g1:mg "ever_holes"=some (.ref f1))
  (m2:Meth K C "cell_count" f2) (G2:FnOk P w K mg base CX0 1 f2 fd2 ["self"] (spCc C)) (b2:Binds K fd2 ["self"] []):FnOk P w K mg base CX0 2 f fd ["self"] (spKn C):=by
 obtain ⟨u0,e0,r0⟩:=c0
 obtain ⟨u1,e1,r1⟩:=c1
 obtain ⟨u2,e2,r2⟩:=c2
 refine F.ok scKn (fun vs H Q E h=>?_) (fun cdv A outer s H vs Q E hr h=>?_)
 ·obtain ⟨g,dx,hl,pl,d,cn,st,rfl,_⟩:=h
  rfl
 ·obtain ⟨g,dx,hl,pl,d,cn,st,rfl,hG,k⟩:=h
  have nd:=scKn.nd
  refine ⟨_,pss_cons (ps_set (i:=1) nd rfl (Or.inl rfl) (pe_call G1 hr rfl g1 k1 b1 .nil pass0 (pa_cons (pe_fld (pv 0) rfl) pa_nil)))
   (pss_cons (ps_set (i:=2) nd rfl (Or.inl rfl) (pv 1))
   (pss_cons (ps_for PassesOwn.never rfl (pi_list (pe_fld (pv 0) rfl)) (pg_name (i:=3) nd rfl (Or.inl rfl))
    (pss_one (ps_set (i:=2) nd rfl (Or.inl rfl) (pe_op op_and (pv 2) (pv 3)))))
   (pss_cons (ps_set (i:=4) nd rfl (Or.inl rfl) (pe_lst pa_nil))
   (pss_cons (ps_for PassesOwn.never rfl (pi_range1 rfl B.range (pa_cons (pe_meth0 (pv 0) T.cl m2 G2 hr b2 .nil pass0) pa_nil)) (pg_name (i:=5) nd rfl (Or.inl rfl))
    (pss_one (ps_if (pt_cmpR op_eq (pe_op op_and (pe_op op_shr (pv 1) (pv 5)) pe_int) pe_int (nomark _))
     (pss_one (ps_expr (pe_bm PySem.F.plainAttrs_list PySem.F.slot_list_append PySem.F.type_list_append mt_append (pv 4) (pa_cons (pe_glob rfl e0 r0) pa_nil))))
     (pss_one (ps_if (pt_cmpR op_eq (pe_op op_and (pe_op op_shr (pv 2) (pv 5)) pe_int) pe_int (nomark _))
      (pss_one (ps_expr (pe_bm PySem.F.plainAttrs_list PySem.F.slot_list_append PySem.F.type_list_append mt_append (pv 4) (pa_cons (pe_glob rfl e1 r1) pa_nil))))
      (pss_one (ps_expr (pe_bm PySem.F.plainAttrs_list PySem.F.slot_list_append PySem.F.type_list_append mt_append (pv 4) (pa_cons (pe_glob rfl e2 r2) pa_nil)))))))))
   (pss_one (ps_ret (pv 4))))))),?_⟩
  have fo:=hG.ok.fo
  have hwh:=fo.wh
  refine ⟨_,rfl,g,C,dx,_,_,rfl,hG.at_,T.cl,T.nP,rfl,pl,st.left,rfl,SqL.of hG.pos,?_⟩
  refine ⟨_,rfl,?_⟩
  refine ⟨_,rfl,g,C,dx,_,_,rfl,hG.at_,T.cl,T.nP,rfl,pl,rfl,⟨_,SqL.of hG.pos⟩,for_list (xs:=ofs st.left) (fun i σ H'=>∃ v3:Option V,σ=[some (.ref g),some (.int (orW st.left:Nat)),some (.int (andW (orW st.left) (st.left.take i):Nat)),v3,none,none]∧H'=H) ⟨none,rfl,rfl⟩ (fun i σ H' _ ⟨_,_,e⟩=>by subst e; exact SqL.of hG.pos) ?_ ?_⟩
  ·rintro i y σ H' hi ⟨v3,rfl,rfl⟩
   obtain ⟨x,hx,rfl⟩:=ofs_get hi
   refine ⟨_,rfl,_,rfl,_,_,rfl,rfl,some (.int (x:Nat)),?_,rfl⟩
   show [some (V.ref g),some (V.int (orW st.left:Nat)),some (V.int (Builtin.bitAnd (andW (orW st.left) (st.left.take i):Nat) (x:Nat))),some (V.int (x:Nat)),none,none]=_
   rw [bitAnd_nat,take_snoc hx,andW_snoc]
  ·rintro σ H' ⟨v3,rfl,rfl⟩
   rw [ofs_len,List.take_length]
   refine ⟨(by show 0≤sizeLine; decide),fun l hl'=>?_⟩
   have ngl:g ≠ l:=ne_of_none hG.at_ hl'
   have hg1:(upd H' l (.lst [])) g=some (.ins C dx (glf st.form hl pl cn d)):=by rw [upd_ne ngl]; exact hG.at_
   refine ⟨_,rfl,g,dx,_,rfl,hg1,rfl,g,dx,hl,pl,d,cn,st.form,rfl,hg1,fo.w6,fo.h6,_,rfl,by omega,by omega,?_⟩
   rw [Int.toNat_natCast]
   refine for_range (n:=st.form.w * st.form.h) (fun i σ H1=>∃ v5:Option V,σ=[some (.ref g),some (.int (orW st.left:Nat)),some (.int (andW (orW st.left) st.left:Nat)),v3,some (.ref l),v5]∧Same H' H1∧H1 l=some (.lst (ofs (stats st i)))) ⟨none,rfl,(Same.refl H').new hl',upd_same⟩ ?_ ?_
   ·rintro i σ H1 hi ⟨v5,rfl,S1,hl1⟩
    have e0:(0:Int) + (i:Int)=(i:Int):=by omega
    rw [e0]
    have app:∀ m:Nat,Vbexai.statusOf st i=m→∃ v5:Option V,([some (V.ref g),some (.int (orW st.left:Nat)),some (.int (andW (orW st.left) st.left:Nat)),v3,some (.ref l),some (.int (i:Nat))]:List (Option V))=[some (.ref g),some (.int (orW st.left:Nat)),some (.int (andW (orW st.left) st.left:Nat)),v3,some (.ref l),v5]∧Same H' (upd H1 l (.lst (ofs (stats st i) ++ [.int (m:Int)])))∧(upd H1 l (.lst (ofs (stats st i) ++ [.int (m:Int)]))) l=some (.lst (ofs (stats st (i + 1)))):=fun m hm=>by
     refine ⟨_,rfl,S1.up hl',?_⟩
     rw [upd_same]
     unfold stats ofs
     rw [List.range_succ,List.map_append,List.map_append,← hm]; rfl
    have hlen:(ofs (stats st i)).length < sizeLine:=by rw [ofs_len]; unfold stats; rw [List.length_map,List.length_range]; exact nsize (by omega)
    have hst:=status_eq st i
    refine ⟨_,rfl,_,rfl,_,_,rfl,rfl,(show (0:Int)≤(i:Int) by omega),_,_,rfl,rfl,rfl,_,rfl,?_⟩
    have t0:=bit_is (orW st.left) i false
    refine ite2 (fun hb=>?_) (fun hb=>?_)
    ·have hb':(orW st.left).testBit i=false:=by
      have:((orW st.left).testBit i == false)=true:=by rw [← t0]; exact hb
      simpa using this
     rw [if_pos hb'] at hst
     exact ⟨_,rfl,.inl ⟨rfl,_,SqL.of hl1⟩,l,_,_,rfl,rfl,hl1,hlen,app 0 hst⟩
    ·have hb':¬ (orW st.left).testBit i=false:=fun z=>hb (by
      have:((orW st.left).testBit i == false)=true:=by rw [z]; rfl
      rw [← t0] at this
      exact this)
     rw [if_neg hb'] at hst
     refine ⟨_,rfl,_,rfl,_,_,rfl,rfl,(show (0:Int)≤(i:Int) by omega),_,_,rfl,rfl,rfl,_,rfl,?_⟩
     have t1:=bit_is (andW (orW st.left) st.left) i true
     refine ite2 (fun hc=>?_) (fun hc=>?_)
     ·have hc':(andW (orW st.left) st.left).testBit i=true:=by
       have:((andW (orW st.left) st.left).testBit i == true)=true:=by rw [← t1]; exact hc
       simpa using this
      rw [if_pos hc'] at hst
      exact ⟨_,rfl,.inl ⟨rfl,_,SqL.of hl1⟩,l,_,_,rfl,rfl,hl1,hlen,app 1 hst⟩
     ·have hc':¬ (andW (orW st.left) st.left).testBit i=true:=fun z=>hc (by
       have:((andW (orW st.left) st.left).testBit i == true)=true:=by rw [z]; rfl
       rw [← t1] at this
       exact this)
      rw [if_neg hc'] at hst
      exact ⟨_,rfl,.inl ⟨rfl,_,SqL.of hl1⟩,l,_,_,rfl,rfl,hl1,hlen,app 2 hst⟩
   ·rintro σ H1 ⟨v5,rfl,S1,hl1⟩
    exact ⟨_,rfl,k H1 l S1 hl' hl1⟩
abbrev sSf:Stmt:=inClass (top 19) 10
def firms (st:Vbexai.St) (n:Nat):List Nat:=(List.range n).filter (Vbexai.firm st)
def spSf (C:Addr):Sp:=fun vs H Q _=>∃ (g dx hl pl d:Addr) (cn:V) (st:Vbexai.St),vs=[.ref g]∧GlA C H g dx hl pl d cn st∧
 ∀ (H':Hp) (p:Addr),Same H H'→H p=none→H' p=some (.dK (tr (firms st (st.form.w * st.form.h))))→Q (.ref p) H'
theorem scSf:FnScope ["self","firm","cell","known"] ["self"] (defScope sSf):=⟨rfl,rfl,rfl,by decide +kernel,rfl,by decide +kernel,by decide +kernel⟩
theorem ok_sf {f f1 C:Addr} {fd fd1:FuncData} (F:Fun K "surely_firm" "Glacier.surely_firm" sSf f fd) (T:TxG K C) (B:Blt mg) (c0:Num mg "FIRM" 0)
  (m1:Meth K C "knowledge" f1) (G1:FnOk P w K mg base CX0 2 f1 fd1 ["self"] (spKn C)) (b1:Binds K fd1 ["self"] []):FnOk P w K mg base CX0 3 f fd ["self"] (spSf C):=by
 obtain ⟨u0,e0,r0⟩:=c0
 refine F.ok scSf (fun vs H Q E h=>?_) (fun cdv A outer s H vs Q E hr h=>?_)
 ·obtain ⟨g,dx,hl,pl,d,cn,st,rfl,_⟩:=h
  rfl
 ·obtain ⟨g,dx,hl,pl,d,cn,st,rfl,hG,k⟩:=h
  have nd:=scSf.nd
  have hu:=hu_of hr
  refine ⟨_,pss_cons (ps_set (i:=1) nd rfl (Or.inl rfl) pe_dnewK)
   (pss_cons (ps_for PassesOwn.never rfl (pi_enum rfl B.enum (pa_cons (pe_meth0 (pv 0) T.cl m1 G1 hr b1 .nil pass0) pa_nil)) (pg_tup rfl (pgs_cons (pg_name (i:=2) nd rfl (Or.inl rfl)) (pgs_cons (pg_name (i:=3) nd rfl (Or.inl rfl)) pgs_nil)))
    (pss_one (ps_if (pt_cmpR op_eq (pv 3) (pe_glob rfl e0 r0) (nomark _)) (pss_one (ps_dput hu (pv 1) (pv 2) pe_bl rfl)) pss_nil)))
   (pss_one (ps_ret (pv 1)))),?_⟩
  have hwh:=hG.ok.fo.wh
  intro fm hfm
  have S0:Same H (upd H fm (.dK [])):=(Same.refl H).new hfm
  refine ⟨_,rfl,g,dx,_,rfl,S0 _ _ hG.at_,rfl,g,dx,hl,pl,d,cn,st,rfl,hG.same S0,fun H1 p S1 np hp=>?_⟩
  have S01:=S0.trans S1
  have nfp:fm ≠ p:=ne_of_none (o:=.dK []) upd_same np
  refine ⟨p,_,rfl,SqL.of hp,for_it (n:=st.form.w * st.form.h) (fun i σ H'=>∃ v2 v3:Option V,σ=[some (.ref g),some (.ref fm),v2,v3]∧Same H H'∧H' p=some (.lst (ofs (stats st (st.form.w * st.form.h))))∧H' fm=some (.dK (tr (firms st i))))
   ⟨none,none,rfl,S01,hp,S1 _ _ upd_same⟩ ?_ ?_ ?_ ?_⟩
  ·rintro i σ H2 hi ⟨v2,v3,rfl,S2,h1,h2⟩
   exact ⟨_,V.int (Vbexai.statusOf st i:Nat),SqL.of h1,by unfold ofs stats; rw [List.getElem?_map,map_range_at _ hi]; rfl⟩
  ·rintro σ H2 ⟨v2,v3,rfl,S2,h1,h2⟩
   exact ⟨_,SqL.of h1,by rw [ofs_len]; unfold stats; rw [List.length_map,List.length_range]; exact Nat.le_refl _⟩
  ·rintro i σ H2 y H3 hi ⟨v2,v3,rfl,S2,h1,h2⟩ ⟨tT,z,rfl,nT,rfl,hz⟩
   have hz':=hz _ (SqL.of h1)
   have ez:z=V.int (Vbexai.statusOf st i:Nat):=by
    unfold ofs stats at hz'
    rw [List.getElem?_map,map_range_at _ hi] at hz'
    exact (Option.some.inj hz').symm
   subst ez
   have n1:p ≠ tT:=ne_of_none h1 nT
   have n2:fm ≠ tT:=ne_of_none h2 nT
   have h2':(upd H2 tT (.tup [.int (i:Nat),.int (Vbexai.statusOf st i:Nat)])) fm=some (.dK (tr (firms st i))):=by rw [upd_ne n2]; exact h2
   have hfl:(firms st i).length≤i:=by
    unfold firms
    have:=List.length_filter_le (Vbexai.firm st) (List.range i)
    rw [List.length_range] at this
    exact this
   refine ⟨tT,_,rfl,SqT.of upd_same,rfl,_,_,rfl,_,_,rfl,rfl,?_⟩
   refine ⟨_,rfl,rfl,_,rfl,?_⟩
   have et:decide (V.int (Vbexai.statusOf st i:Nat)=V.int 0)=Vbexai.firm st i:=by
    rw [dec_int]
    unfold Vbexai.firm
    by_cases q:Vbexai.statusOf st i=0
    ·rw [q]; rfl
    ·rw [decide_eq_false (by omega)]
     exact (beq_eq_false_iff_ne.mpr q).symm
   rw [et]
   refine ite2 (fun hb=>?_) (fun hb=>?_)
   ·have hnew:i ∉ firms st i:=fun z=>by
     unfold firms at z
     have:=List.mem_range.mp (List.mem_filter.mp z).1
     omega
    refine ⟨_,rfl,_,rfl,fm,_,rfl,DPut.k (k:=Sum.inl (i:Int)) h2' (by unfold tr; rw [List.length_map]; exact nsize (by omega)),_,_,rfl,(S2.new nT).up hfm,?_,?_⟩
    ·rw [upd_ne (fun e=>nfp e.symm),upd_ne n1]; exact h1
    ·rw [upd_same,tr_put,if_neg hnew]
     unfold firms
     rw [List.range_succ,List.filter_append,List.filter_cons,if_pos hb,List.filter_nil]
   ·refine ⟨_,_,rfl,S2.new nT,by rw [upd_ne n1]; exact h1,?_⟩
    rw [h2']
    unfold firms
    rw [List.range_succ,List.filter_append,List.filter_cons,if_neg hb,List.filter_nil,List.append_nil]
  ·rintro σ H2 ⟨v2,v3,rfl,S2,h1,h2⟩
   exact ⟨_,rfl,k H2 fm S2 hfm h2⟩
end
end Rp
namespace Rp
open PySem PySem.Spec PyProof.Rows L2
theorem wk_len (ks:List Nat) (v:Nat→Nat):(wk ks v).length=ks.length:=by unfold wk; rw [List.length_map]
theorem wk_put {ks:List Nat} (v:Nat→Nat) {c:Nat} (m:Nat) (h:c ∈ ks):putK (fkv (wk ks v)) (Sum.inl (c:Int)) (V.int (m:Int))=fkv (wk ks fun c'=>if c'=c then m else v c'):=by
 unfold putK
 rw [valV_any,fkv_val,wk_far v h,if_pos (by rfl)]
 unfold fkv wk
 rw [List.map_map,List.map_map,List.map_map]
 apply List.map_congr_left
 intro a _
 show (if (Sum.inl (a:Int):Key)=Sum.inl (c:Int) then ((Sum.inl (a:Int):Key),V.int (m:Int)) else (Sum.inl (a:Int),V.int ((v a:Nat):Int)))=(Sum.inl (a:Int),V.int (((if a=c then m else v a:Nat)):Int))
 by_cases e:a=c
 ·subst e; simp
 ·have e1:¬ (Sum.inl (a:Int):Key)=Sum.inl (c:Int):=fun q=>e (by have:=Sum.inl.inj q; omega)
  rw [if_neg e1,if_neg e]
theorem wk_new {ks:List Nat} (v:Nat→Nat) {c:Nat} (m:Nat) (h:c ∉ ks):putK (fkv (wk ks v)) (Sum.inl (c:Int)) (V.int (m:Int))=fkv (wk ks v ++ [(c,m)]):=fkv_put _ _ _ (wk_far_none v h)
theorem wk_congr {ks:List Nat} {v v':Nat→Nat} (h:∀ c ∈ ks,v c=v' c):wk ks v=wk ks v':=by
 unfold wk
 apply List.map_congr_left
 intro c hc
 rw [h c hc]
section
variable {P:Program} {w:World} {K:PySem.W.Frag} {mg:Str→Option Value} {base:Heap}
abbrev sFw:Stmt:=top 22
abbrev wh (ws cells:List Nat):List (Nat × Nat):=wk (dd cells) fun c=>bm (fun x=>Vbexai.hole x c) ws
def spFw (K:PySem.W.Frag):Sp:=fun vs H Q _=>∃ (a b:Addr) (ws cells:List Nat) (n:Nat),vs=[.ref a,.ref b]∧SqL K H a (ofs ws)∧SqL K H b (ofs cells)∧ws.length≤100000∧cells.length≤1000∧n≤100∧(∀ x ∈ ws,x < 2 ^ n)∧
 ∀ (H':Hp) (p:Addr),Same H H'→H p=none→H' p=some (.dK (fkv (wh ws cells)))→Q (.ref p) H'
theorem scFw:FnScope ["possible","cells","with_hole","cell","place","number"] ["possible","cells"] (defScope sFw):=⟨rfl,rfl,rfl,by decide +kernel,rfl,by decide +kernel,by decide +kernel⟩
theorem ok_fw {f f1:Addr} {fd fd1:FuncData} (F:Fun K "fields_with_hole" "fields_with_hole" sFw f fd) (B:Blt mg)
  (G1:FnOk P w K mg base CX0 1 f1 fd1 ["number"] spHoles) (k1:PySem.W.keepIn K (.ref f1)=true) (b1:Binds K fd1 ["number"] []) (g1:mg "holes"=some (.ref f1)):FnOk P w K mg base CX0 2 f fd ["possible","cells"] (spFw K):=by
 refine F.ok scFw (fun vs H Q E h=>?_) (fun cdv A outer s H vs Q E hr h=>?_)
 ·obtain ⟨a,b,ws,cells,n,rfl,_⟩:=h
  rfl
 ·obtain ⟨a,b,ws,cells,n,rfl,hA,hB,hwl,hcl,hn,hw,k⟩:=h
  have nd:=scFw.nd
  have hu:=hu_of hr
  refine ⟨_,pss_cons (ps_set (i:=2) nd rfl (Or.inl rfl) pe_dnewK)
   (pss_cons (ps_for PassesOwn.never rfl (pi_list (pv 1)) (pg_name (i:=3) nd rfl (Or.inl rfl)) (pss_one (ps_dput hu (pv 2) (pv 3) pe_int rfl)))
   (pss_cons (ps_for PassesOwn.never rfl (pi_enum rfl B.enum (pa_cons (pv 0) pa_nil)) (pg_tup rfl (pgs_cons (pg_name (i:=4) nd rfl (Or.inl rfl)) (pgs_cons (pg_name (i:=5) nd rfl (Or.inl rfl)) pgs_nil)))
    (pss_one (ps_for PassesOwn.never rfl (pi_list (pe_call G1 hr rfl g1 k1 b1 .nil pass0 (pa_cons (pv 5) pa_nil))) (pg_name (i:=3) nd rfl (Or.inl rfl))
     (pss_one (ps_if (pt_cmp (pc_din hu (pv 3) (pv 2))) (pss_one (ps_dput hu (pv 2) (pv 3) (pe_op op_or (pe_dget hu (pv 2) (pv 3) (fun _ _=>rfl)) (pe_op op_shl pe_int (pv 4))) rfl)) pss_nil)))))
   (pss_one (ps_ret (pv 2))))),?_⟩
  intro d hd
  have S0:Same H (upd H d (.dK [])):=(Same.refl H).new hd
  refine ⟨_,rfl,b,rfl,⟨_,S0.seq hB⟩,for_list (xs:=ofs cells) (fun i σ H'=>∃ v3:Option V,σ=[some (.ref a),some (.ref b),some (.ref d),v3,none,none]∧Same H H'∧H' d=some (.dK (fkv (wk (dd (cells.take i)) fun _=>0)))) ⟨none,rfl,S0,upd_same⟩ (fun i σ H' _ ⟨_,_,S,_⟩=>S.seq hB) ?_ ?_⟩
  ·rintro i y σ H1 hi ⟨v3,rfl,S1,hd1⟩
   obtain ⟨c,hc,rfl⟩:=ofs_get hi
   have hdl:=dd_len (cells.take i)
   rw [List.length_take] at hdl
   refine ⟨_,rfl,_,rfl,d,_,rfl,DPut.k (k:=Sum.inl (c:Int)) hd1 (by rw [fkv_len,wk_len]; exact nsize (by omega)),some (.int (c:Nat)),rfl,S1.up hd,?_⟩
   rw [upd_same,take_snoc hc,dd_snoc]
   unfold ddA
   by_cases q:c ∈ dd (cells.take i)
   ·rw [if_pos q]
    have:=wk_put (fun _=>0) 0 q
    have e:(fun c'=>if c'=c then 0 else (fun _=>0) c')=fun _:Nat=>0:=by
     funext c'
     split <;> rfl
    rw [e] at this
    exact congrArg (fun z=>some (HO.dK z)) this
   ·rw [if_neg q]
    have:=wk_new (fun _=>0) 0 q
    rw [show wk (dd (cells.take i) ++ [c]) (fun _=>0)=wk (dd (cells.take i)) (fun _=>0) ++ [(c,0)] by unfold wk; rw [List.map_append]; rfl]
    exact congrArg (fun z=>some (HO.dK z)) this
  ·rintro σ H1 ⟨v3,rfl,S1,hd1⟩
   rw [ofs_len,List.take_length] at hd1
   have hdl:=dd_len cells
   refine ⟨_,rfl,a,_,rfl,S1.seq hA,for_it (n:=ws.length) (fun i σ H'=>∃ v3 v4 v5:Option V,σ=[some (.ref a),some (.ref b),some (.ref d),v3,v4,v5]∧Same H H'∧H' d=some (.dK (fkv (wk (dd cells) fun c=>bmT (fun x=>Vbexai.hole x c) ws i)))) ⟨v3,none,none,rfl,S1,hd1⟩ ?_ ?_ ?_ ?_⟩
   ·rintro i σ H2 hi ⟨v3,v4,v5,rfl,S2,h2⟩
    exact ⟨ofs ws,V.int (ws[i]:Nat),S2.seq hA,by unfold ofs; rw [List.getElem?_map,List.getElem?_eq_getElem hi]; rfl⟩
   ·rintro σ H2 ⟨v3,v4,v5,rfl,S2,h2⟩
    exact ⟨ofs ws,S2.seq hA,by rw [ofs_len]; exact Nat.le_refl _⟩
   ·rintro i σ H2 y H3 hi ⟨v3,v4,v5,rfl,S2,h2⟩ ⟨T,z,rfl,nT,rfl,hz⟩
    obtain ⟨x,hx,rfl⟩:=ofs_get (hz _ (S2.seq hA))
    have hxn:=hw x (List.mem_of_getElem? hx)
    have ndT:d ≠ T:=ne_of_none h2 nT
    refine ⟨T,_,rfl,SqT.of upd_same,rfl,_,_,rfl,_,_,rfl,rfl,?_⟩
    refine ⟨_,rfl,x,n,rfl,hxn,hn,fun H4 p S4 np hp=>?_⟩
    have S24:=(S2.new (o:=.tup [.int (i:Nat),.int (x:Nat)]) nT).trans S4
    have h4:H4 d=some (.dK (fkv (wk (dd cells) fun c=>bmT (fun x=>Vbexai.hole x c) ws i))):=S4 _ _ (by rw [upd_ne ndT]; exact h2)
    have ndp:d ≠ p:=ne_of_none (o:=.dK (fkv (wk (dd cells) fun c=>bmT (fun x=>Vbexai.hole x c) ws i))) (by rw [upd_ne ndT]; exact h2) np
    generalize ehs:(List.range n).filter (Vbexai.hole x)=hs at hp
    have hnd:hs.Nodup:=by rw [← ehs]; exact List.nodup_range.filter _
    have hmem:∀ c,c ∈ hs↔Vbexai.hole x c=true:=fun c=>by
     rw [← ehs,List.mem_filter,List.mem_range]
     refine ⟨fun z=>z.2,fun z=>⟨Nat.lt_of_not_le fun hle=>?_,z⟩⟩
     rw [hole_eq,Nat.testBit_lt_two_pow (Nat.lt_of_lt_of_le hxn (Nat.pow_le_pow_right (by decide) hle))] at z
     cases z
    refine ⟨p,rfl,⟨_,SqL.of hp⟩,for_list (xs:=ofs hs) (fun q σ H'=>∃ v3:Option V,σ=[some (.ref a),some (.ref b),some (.ref d),v3,some (.int (i:Nat)),some (.int (x:Nat))]∧Same H H'∧H' p=some (.lst (ofs hs))∧H' d=some (.dK (fkv (wk (dd cells) fun c=>if c ∈ hs.take q then bmT (fun x=>Vbexai.hole x c) ws i ||| 2 ^ i else bmT (fun x=>Vbexai.hole x c) ws i))))
     ⟨v3,rfl,S24,hp,by rw [h4]; simp⟩ (fun _ σ H' _ ⟨_,_,_,q,_⟩=>SqL.of q) ?_ ?_⟩
    ·rintro q y σ H5 hq ⟨v3,rfl,S5,hp5,hd5⟩
     obtain ⟨c,hc,rfl⟩:=ofs_get hq
     have hcq:c ∉ hs.take q:=fun z=>by
      obtain ⟨q',hq1⟩:=List.mem_iff_getElem?.mp z
      rw [List.getElem?_take] at hq1
      by_cases h:q' < q
      ·rw [if_pos h] at hq1
       have:=nd_ix hnd hq1 hc
       omega
      ·rw [if_neg h] at hq1; cases hq1
     have hval:=DGet.k (k:=Sum.inl (c:Int)) hd5
     rw [fkv_val] at hval
     refine ⟨_,rfl,_,rfl,d,_,rfl,hval,_,rfl,?_⟩
     by_cases hm:c ∈ dd cells
     ·rw [wk_far _ hm,if_neg hcq] at hval ⊢
      refine iteT ⟨_,rfl,_,rfl,d,_,rfl,hval,_,rfl,o1 rfl rfl ⟨by omega,by omega,by decide⟩ rfl (o0 rfl rfl (v:=.int ((bmT (fun x=>Vbexai.hole x c) ws i ||| 2 ^ i:Nat):Int)) ?_ ⟨_,rfl,_,rfl,d,_,rfl,DPut.k (k:=Sum.inl (c:Int)) hd5 (by rw [fkv_len,wk_len]; exact nsize (by omega)),some (.int (c:Nat)),rfl,S5.up hd,?_,?_⟩)⟩
      ·rw [Int.toNat_natCast,pow_nat,bitOr_nat]
      ·rw [upd_ne (fun e=>ndp e.symm)]; exact hp5
      ·rw [upd_same,wk_put _ _ hm,take_snoc hc]
       congr 3
       apply wk_congr
       intro c' _
       by_cases e:c'=c
       ·subst e; simp
       ·simp [e]
     ·rw [wk_far_none _ hm]
      refine iteF ⟨some (.int (c:Nat)),rfl,S5,hp5,?_⟩
      rw [hd5,take_snoc hc]
      congr 3
      apply wk_congr
      intro c' hc'
      have e:¬ c'=c:=fun z=>hm (by rw [← z]; exact hc')
      simp [e]
    ·rintro σ H5 ⟨v3,rfl,S5,hp5,hd5⟩
     rw [ofs_len,List.take_length] at hd5
     refine ⟨v3,_,_,rfl,S5,?_⟩
     rw [hd5]
     congr 3
     apply wk_congr
     intro c _
     rw [bmT_succ hx]
     by_cases e:Vbexai.hole x c=true
     ·rw [if_pos ((hmem c).mpr e),if_pos e]
     ·rw [if_neg (fun z=>e ((hmem c).mp z)),if_neg e]
   ·rintro σ H2 ⟨v3,v4,v5,rfl,S2,h2⟩
    exact ⟨_,rfl,k H2 d S2 hd h2⟩
abbrev sFn:Stmt:=top 23
abbrev stk (ws way:List Nat):Nat:=bm (fun x=>!Vbexai.clear x way) ws
def spFn (K:PySem.W.Frag):Sp:=fun vs H Q _=>∃ (a b:Addr) (ws way:List Nat) (n:Nat),vs=[.ref a,.ref b]∧SqL K H a (ofs ws)∧SqL K H b (ofs way)∧ws.length≤100000∧way.length≤1000∧n≤100∧(∀ x ∈ ws,x < 2 ^ n)∧
 ∀ H':Hp,Same H H'→Q (.int (stk ws way:Nat)) H'
theorem scFn:FnScope ["possible","way","struck","one"] ["possible","way"] (defScope sFn):=⟨rfl,rfl,rfl,by decide +kernel,rfl,by decide +kernel,by decide +kernel⟩
theorem ok_fn {f f1:Addr} {fd fd1:FuncData} (F:Fun K "fields_not_clear" "fields_not_clear" sFn f fd)
  (G1:FnOk P w K mg base CX0 2 f1 fd1 ["possible","cells"] (spFw K)) (k1:PySem.W.keepIn K (.ref f1)=true) (b1:Binds K fd1 ["possible","cells"] []) (g1:mg "fields_with_hole"=some (.ref f1)):FnOk P w K mg base CX0 3 f fd ["possible","way"] (spFn K):=by
 refine F.ok scFn (fun vs H Q E h=>?_) (fun cdv A outer s H vs Q E hr h=>?_)
 ·obtain ⟨a,b,ws,way,n,rfl,_⟩:=h
  rfl
 ·obtain ⟨a,b,ws,way,n,rfl,hA,hB,hwl,hcl,hn,hw,k⟩:=h
  have nd:=scFn.nd
  refine ⟨_,pss_cons (ps_set (i:=2) nd rfl (Or.inl rfl) pe_int)
   (pss_cons (ps_for PassesOwn.never rfl (pi_values (pe_frz (pe_call G1 hr rfl g1 k1 b1 .nil pass0 (pa_cons (pv 0) (pa_cons (pv 1) pa_nil))))) (pg_name (i:=3) nd rfl (Or.inl rfl))
    (pss_one (ps_set (i:=2) nd rfl (Or.inl rfl) (pe_op op_or (pv 2) (pv 3)))))
   (pss_one (ps_ret (pv 2)))),?_⟩
  refine ⟨_,rfl,_,rfl,a,b,ws,way,n,rfl,hA,hB,hwl,hcl,hn,hw,fun H1 d S1 nd1 hd=>⟨d,_,hd,trivial,fun od=>⟨d,od,_,rfl,upd_same,?_⟩⟩⟩
  generalize evs:(wh ws way)=rs at hd
  refine for_it (n:=rs.length) (fun i σ H'=>∃ v3:Option V,σ=[some (.ref a),some (.ref b),some (.int (orW ((rs.take i).map (·.2)):Nat)),v3]∧Same H H'∧H' d=some (.frz od (.dK (fkv rs))))
   ⟨none,rfl,S1.up nd1,upd_same⟩ ?_ ?_ ?_ ?_
  ·rintro i σ H2 hi ⟨v3,rfl,S2,h2⟩
   exact ⟨h2,by rw [fkv_len]; exact hi⟩
  ·rintro σ H2 ⟨v3,rfl,S2,h2⟩
   exact ⟨h2,by rw [fkv_len]; exact Nat.le_refl _⟩
  ·rintro i σ H2 y H3 hi ⟨v3,rfl,S2,h2⟩ ⟨rfl,key,hy⟩
   obtain ⟨r,hr',_,rfl⟩:=fkv_get hy
   refine ⟨_,rfl,_,rfl,o0 rfl rfl (v:=.int ((orW ((rs.take (i + 1)).map (·.2)):Nat):Int)) ?_ ⟨some (.int (r.2:Nat)),rfl,S2,h2⟩⟩
   rw [bitOr_nat,take_snoc hr',List.map_append,List.map_singleton,orW_snoc]
  ·rintro σ H2 ⟨v3,rfl,S2,h2⟩
   rw [List.take_length]
   have e:orW (rs.map (·.2))=stk ws way:=by
    refine struck_eq ws way _ fun i=>?_
    rw [orW_bit,← evs]
    unfold wh wk
    rw [List.map_map,List.any_map]
    rfl
   rw [e]
   exact ⟨_,rfl,k H2 S2⟩
end
end Rp
namespace Rp
open PySem PySem.Spec PyProof.Rows L2
theorem o0c {g:Int→Int→V} {x:V} {σ:L2.St} {H:Hp} {Q:VK} {i j:Int} {v:V} (hx:x=.int i) (hv:g i j=v) (h:Q v H):tC (.int j) σ H (fun y H2=>rI0 g x y H2 Q):=⟨i,j,hx,rfl,by rw [hv]; exact h⟩
structure FirmAt (H:Hp) (lf:Addr) (ws cells:List Nat):Prop where
 ex:∃ as:List Addr,H lf=some (.lst (as.map V.ref))∧as.length=cells.length∧∀ (j c:Nat),cells[j]?=some c→∃ a,as[j]?=some a∧H a=some (.tup [.int (c:Nat),.int (bm (fun x=>!Vbexai.hole x c) ws:Nat)])
theorem FirmAt.same {H H':Hp} {lf:Addr} {ws cells:List Nat} (h:FirmAt H lf ws cells) (S:Same H H'):FirmAt H' lf ws cells:=by
 obtain ⟨as,h1,h2,h3⟩:=h.ex
 refine ⟨as,S _ _ h1,h2,fun j c hc=>?_⟩
 obtain ⟨a,ha,hh⟩:=h3 j c hc
 exact ⟨a,ha,S _ _ hh⟩
theorem cov_len (ws way:List Nat):∀ (k:Nat) (cells:List Nat) (p:Nat→Bool) (r:List Nat),cov ws way k cells p=some r→r.length=k
 | 0,cells,p,r,h=>by
  unfold cov at h
  split at h
  ·cases h; rfl
  ·cases h
 |k + 1,[],p,r,h=>by cases h
 |k + 1,c::cs,p,r,h=>by
  unfold cov at h
  split at h
  ·cases e:cov ws way k cs (fun x=>p x && !Vbexai.hole x c) with
   |none=>
    rw [e] at h
    exact cov_len ws way (k + 1) cs p r h
   |some r'=>
    rw [e] at h
    cases h
    rw [List.length_cons,cov_len ws way k cs _ r' e]
  ·exact cov_len ws way (k + 1) cs p r h
section
variable {P:Program} {w:World} {K:PySem.W.Frag} {mg:Str→Option Value} {base:Heap}
abbrev sCov:Stmt:=top 24
def spCov (n:Nat):Sp:=fun vs H Q _=>∃ (lf:Addr) (ws way cells:List Nat) (p:Nat→Bool) (start size:Nat),vs=[.ref lf,.int (stk ws way:Nat),.int (bm p ws:Nat),.int (start:Nat),.int (size:Nat)]∧size≤n∧n≤3∧start≤cells.length∧cells.length≤1000∧FirmAt H lf ws cells∧
 (∀ H':Hp,Same H H'→cov ws way size (cells.drop start) p=none→Q .non H')∧
 ∀ (H':Hp) (q:Addr) (r:List Nat),Same H H'→H q=none→H' q=some (.lst (ofs r))→cov ws way size (cells.drop start) p=some r→Q (.ref q) H'
theorem scCov:FnScope ["firm","struck","left","start","size","place","still_left","others"] ["firm","struck","left","start","size"] (defScope sCov):=⟨rfl,rfl,rfl,by decide +kernel,rfl,by decide +kernel,by decide +kernel⟩
theorem cov0_test (ws way:List Nat) (p:Nat→Bool):decide (V.int (Builtin.bitAnd (bm p ws:Nat) (stk ws way:Nat))=V.int 0)=ws.all fun x=>!p x || Vbexai.clear x way:=by
 rw [dec_int,bitAnd_nat,bm_and]
 have h:=bm_zero (fun x=>p x && !Vbexai.clear x way) ws
 rw [Bool.eq_iff_iff,decide_eq_true_iff,List.all_eq_true]
 constructor
 ·intro e x hx
  have:=h.mp (by omega) x hx
  revert this
  cases p x <;> cases Vbexai.clear x way <;> simp
 ·intro e
  have:=h.mpr fun x hx=>by
   have:=e x hx
   revert this
   cases p x <;> cases Vbexai.clear x way <;> simp
  rw [this]; rfl
theorem bm_test (ws:List Nat) (p:Nat→Bool):decide (V.int ((bm p ws:Nat):Int)=V.int 0)=!ws.any p:=by
 rw [dec_int]
 have h:=bm_zero p ws
 rw [Bool.eq_iff_iff,decide_eq_true_iff,Bool.not_eq_true',List.any_eq_false]
 constructor
 ·intro e x hx
  rw [h.mp (by omega) x hx]; decide
 ·intro e
  have:=h.mpr fun x hx=>Bool.eq_false_iff.mpr (e x hx)
  rw [this]; rfl
theorem ok_cov {f:Addr} {fd:FuncData} (F:Fun K "cover_from" "cover_from" sCov f fd) (B:Blt mg) (b1:Binds K fd ["firm","struck","left","start","size"] []) (g1:mg "cover_from"=some (.ref f)) :
  ∀ n,FnOk P w K mg base CX0 (n + 1) f fd ["firm","struck","left","start","size"] (spCov n)
 | 0=>by
  refine F.ok scCov (fun vs H Q E h=>?_) (fun cdv A outer s H vs Q E hr h=>?_)
  ·obtain ⟨lf,ws,way,cells,p,start,size,rfl,_⟩:=h
   rfl
  ·obtain ⟨lf,ws,way,cells,p,start,size,rfl,hsz,_,hst,hcl,hF,kN,kS⟩:=h
   refine ⟨_,pss_cons (ps_if (pt_cmpR op_eq (pv 4) pe_int (nomark _)) (pss_one (ps_ret (pe_ifExp (pt_cmpR op_eq (pe_op op_and (pv 2) (pv 1)) pe_int (nomark _)) (pe_lst pa_nil) pe_non))) pss_nil)
    (pss_cons ps_never (pss_one ps_never)),?_⟩
   have e0:size=0:=by omega
   subst e0
   refine ⟨_,rfl,rfl,_,rfl,iteT ?_⟩
   refine ⟨_,rfl,_,rfl,o0 rfl rfl rfl ⟨rfl,_,rfl,?_⟩⟩
   rw [cov0_test]
   refine ite2 (fun hb=>?_) (fun hb=>?_)
   ·refine ⟨(by show 0≤sizeLine; decide),fun l hl=>?_⟩
    refine kS _ l [] ((Same.refl H).new hl) hl upd_same ?_
    unfold cov
    rw [if_pos hb]
   ·refine kN _ (Same.refl H) ?_
    unfold cov
    rw [if_neg hb]
 |n + 1=>by
  have G:=ok_cov F B b1 g1 n
  refine F.ok scCov (fun vs H Q E h=>?_) (fun cdv A outer s H vs Q E hr h=>?_)
  ·obtain ⟨lf,ws,way,cells,p,start,size,rfl,_⟩:=h
   rfl
  ·obtain ⟨lf,ws,way,cells,p,start,size,rfl,hsz,hn3,hst,hcl,hF,kN,kS⟩:=h
   have nd:=scCov.nd
   refine ⟨_,pss_cons (ps_if (pt_cmpR op_eq (pv 4) pe_int (nomark _)) (pss_one (ps_ret (pe_ifExp (pt_cmpR op_eq (pe_op op_and (pv 2) (pv 1)) pe_int (nomark _)) (pe_lst pa_nil) pe_non))) pss_nil)
    (pss_cons (ps_for PassesOwn.never rfl (pi_range2 rfl B.range (pa_cons (pv 3) (pa_cons (pe_callB call_len_seq rfl B.len PySem.boot_len (pa_cons (pv 0) pa_nil)) pa_nil))) (pg_name (i:=5) nd rfl (Or.inl rfl))
     (pss_cons (ps_set (i:=6) nd rfl (Or.inl rfl) (pe_op op_and (pv 2) (pe_ix ix_tup (pe_ix ix_list (pv 0) (pv 5) (fun _ _=>rfl)) pe_int (fun _ _=>rfl))))
     (pss_cons (ps_if (pt_cmpR op_eq (pv 6) pe_int (nomark _)) (pss_one ps_continue) pss_nil)
     (pss_cons (ps_set (i:=7) nd rfl (Or.inl rfl) (pe_call G hr rfl g1 F.kp b1 .nil pass0 (pa_cons (pv 0) (pa_cons (pv 1) (pa_cons (pv 6) (pa_cons (pe_op op_add (pv 5) pe_int) (pa_cons (pe_op op_sub (pv 4) pe_int) pa_nil)))))))
     (pss_one (ps_if (pt_cmp (pc_notN (pv 7))) (pss_one (ps_ret (pe_op op_cat (pe_lst (pa_cons (pe_ix ix_tup (pe_ix ix_list (pv 0) (pv 5) (fun _ _=>rfl)) pe_int (fun _ _=>rfl)) pa_nil)) (pv 7)))) pss_nil))))))
    (pss_one (ps_ret pe_non))),?_⟩
   obtain ⟨as,hlf,hal,hat⟩:=hF.ex
   refine ⟨_,rfl,rfl,_,rfl,?_⟩
   cases size with
   |zero=>
    refine iteT ?_
    refine ⟨_,rfl,_,rfl,o0 rfl rfl rfl ⟨rfl,_,rfl,?_⟩⟩
    rw [cov0_test]
    refine ite2 (fun hb=>?_) (fun hb=>?_)
    ·refine ⟨(by show 0≤sizeLine; decide),fun l hl=>?_⟩
     refine kS _ l [] ((Same.refl H).new hl) hl upd_same ?_
     unfold cov
     rw [if_pos hb]
    ·refine kN _ (Same.refl H) ?_
     unfold cov
     rw [if_neg hb]
   |succ size=>
    have hne:decide (V.int ((size + 1:Nat):Int)=V.int 0)=false:=by rw [dec_int]; exact decide_eq_false (by omega)
    rw [hne]
    refine iteF ?_
    refine ⟨_,rfl,_,rfl,lf,_,rfl,.inl (SqL.of hlf),_,_,rfl,?_⟩
    rw [List.length_map,hal]
    refine ⟨⟨by omega,by omega,by omega,by omega⟩,?_⟩
    have e0:((cells.length:Int) - (start:Int)).toNat=cells.length - start:=by omega
    rw [e0]
    refine for_range (n:=cells.length - start) (fun i σ H'=>(∃ v5 v6 v7:Option V,σ=[some (.ref lf),some (.int (stk ws way:Nat)),some (.int (bm p ws:Nat)),some (.int (start:Nat)),some (.int ((size + 1:Nat):Int)),v5,v6,v7])∧Same H H'∧cov ws way (size + 1) (cells.drop start) p=cov ws way (size + 1) (cells.drop (start + i)) p)
     ⟨⟨none,none,none,rfl⟩,Same.refl H,rfl⟩ ?_ ?_
    ·rintro i σ H1 hi ⟨⟨v5,v6,v7,rfl⟩,S1,hcov⟩
     have hlt:start + i < cells.length:=by omega
     obtain ⟨c,hc⟩:∃ c,cells[start + i]?=some c:=⟨_,List.getElem?_eq_getElem hlt⟩
     obtain ⟨a,ha,hha⟩:=hat _ c hc
     have hdrop:cells.drop (start + i)=c::cells.drop (start + (i + 1)):=by
      rw [List.drop_eq_getElem_cons hlt,(List.getElem?_eq_some_iff.mp hc).2]; rfl
     have e1:(start:Int) + (i:Int)=((start + i:Nat):Int):=by omega
     rw [e1]
     have ha':(as.map V.ref)[start + i]?=some (.ref a):=by rw [List.getElem?_map,ha]; rfl
     have hcs:cov ws way (size + 1) (cells.drop (start + i)) p=if (ws.any fun x=>p x && !Vbexai.hole x c)=true then (match cov ws way size (cells.drop (start + (i + 1))) (fun x=>p x && !Vbexai.hole x c) with
       |some r=>some (c::r)
       |none=>cov ws way (size + 1) (cells.drop (start + (i + 1))) p) else cov ws way (size + 1) (cells.drop (start + (i + 1))) p:=by rw [hdrop]; rfl
     refine ⟨_,rfl,_,rfl,_,rfl,lf,_,_,_,rfl,rfl,SqL.of (S1 _ _ hlf),atI_nat ha',a,_,_,_,rfl,rfl,SqT.of (S1 _ _ hha),rfl,o0 rfl rfl (v:=.int ((bm (fun x=>p x && !Vbexai.hole x c) ws:Nat):Int)) ?_ ?_⟩
     ·rw [bitAnd_nat,bm_and]
     refine ⟨_,rfl,rfl,_,rfl,?_⟩
     have et:decide (V.int ((bm (fun x=>p x && !Vbexai.hole x c) ws:Nat):Int)=V.int 0)=!(ws.any fun x=>p x && !Vbexai.hole x c):=bm_test ws _
     rw [et]
     refine ite2 (fun hb=>?_) (fun hb=>?_)
     ·refine ⟨⟨_,_,_,rfl⟩,S1,?_⟩
      rw [hcov,hcs,if_neg (by intro z; rw [z] at hb; exact absurd hb (by decide))]
     ·have hb':(ws.any fun x=>p x && !Vbexai.hole x c)=true:=by
       revert hb
       cases (ws.any fun x=>p x && !Vbexai.hole x c) <;> simp
      rw [if_pos hb'] at hcs
      refine ⟨_,rfl,_,rfl,_,rfl,_,rfl,o0c rfl (v:=.int ((start + (i + 1):Nat):Int)) (congrArg V.int (by omega)) ⟨_,rfl,o0c rfl (v:=.int (size:Nat)) (congrArg V.int (by omega)) ?_⟩⟩
      refine ⟨lf,ws,way,cells,_,start + (i + 1),size,rfl,by omega,by omega,by omega,hcl,hF.same S1,fun H2 S2 e=>?_,fun H2 q r S2 nq hq e=>?_⟩
      ·refine ⟨_,rfl,_,rfl,iteF ⟨⟨_,_,_,rfl⟩,S1.trans S2,?_⟩⟩
       rw [hcov,hcs,e]
      ·have hrl:=cov_len _ _ _ _ _ _ e
       have S12:=S1.trans S2
       refine ⟨_,rfl,_,rfl,iteT ?_⟩
       refine ⟨_,rfl,_,rfl,lf,_,_,_,rfl,rfl,SqL.of (S12 _ _ hlf),atI_nat ha',a,_,_,_,rfl,rfl,SqT.of (S12 _ _ hha),rfl,(by show 1≤sizeLine; decide),fun l hl=>⟨_,rfl,?_⟩⟩
       have nql:q ≠ l:=ne_of_none hq hl
       refine ⟨l,q,_,_,rfl,rfl,upd_same,(by rw [upd_ne nql]; exact hq),(by rw [ofs_len]; show 1 + r.length≤sizeLine; have:=nsize (n:=1 + r.length) (by omega); omega),fun l2 hl2=>?_⟩
       have S3:=S12.new (o:=.lst [.int (c:Nat)]) hl
       refine kS _ l2 (c::r) (S3.new hl2) (S3.free hl2) upd_same ?_
       rw [hcov,hcs,e]
    ·rintro σ H1 ⟨⟨v5,v6,v7,rfl⟩,S1,hcov⟩
     refine kN H1 S1 ?_
     rw [hcov,show start + (cells.length - start)=cells.length by omega,List.drop_length]
     rfl
end
end Rp
namespace Rp
open PySem PySem.Spec PyProof.Rows L2
theorem coverFrom_at (ws way cells:List Nat) (h0:ws ≠ []):∀ (f m i:Nat) (r:List Nat),i < f→(∀ k,k < i→cov ws way (m + k) cells (fun _=>true)=none)→cov ws way (m + i) cells (fun _=>true)=some r→Vbexai.coverFrom ws way cells f m=some r
 | 0,m,i,r,h,_,_=>by omega
 |f + 1,m,i,r,h,hn,hs=>by
  unfold Vbexai.coverFrom
  rw [← cov_all ws way h0 m cells]
  cases i with
  |zero=>
   rw [Nat.add_zero] at hs
   rw [hs]
  |succ i=>
   have:=hn 0 (by omega)
   rw [Nat.add_zero] at this
   rw [this]
   exact coverFrom_at ws way cells h0 f (m + 1) i r (by omega) (fun k hk=>by have:=hn (k + 1) (by omega); rw [show m + 1 + k=m + (k + 1) by omega]; exact this) (by rw [show m + 1 + i=m + (i + 1) by omega]; exact hs)
theorem coverFrom_no (ws way cells:List Nat) (h0:ws ≠ []):∀ (f m:Nat),(∀ k,k < f→cov ws way (m + k) cells (fun _=>true)=none)→Vbexai.coverFrom ws way cells f m=none
 | 0,m,_=>rfl
 |f + 1,m,hn=>by
  unfold Vbexai.coverFrom
  have:=hn 0 (by omega)
  rw [Nat.add_zero] at this
  rw [← cov_all ws way h0 m cells,this]
  exact coverFrom_no ws way cells h0 f (m + 1) fun k hk=>by
   have:=hn (k + 1) (by omega)
   rw [show m + 1 + k=m + (k + 1) by omega]
   exact this
theorem bm_compl (q:Nat→Bool) (ws:List Nat):bm (fun _=>true) ws ^^^ bm q ws=bm (fun x=>!q x) ws:=by
 have:=bm_xor (fun _=>true) q ws
 exact this
section
variable {P:Program} {w:World} {K:PySem.W.Frag} {mg:Str→Option Value} {base:Heap}
abbrev sLc:Stmt:=top 25
def spLc (K:PySem.W.Frag):Sp:=fun vs H Q _=>∃ (a b y:Addr) (ws cells way:List Nat) (n:Nat),vs=[.ref a,.ref b,.ref y]∧SqL K H a (ofs ws)∧SqL K H b (ofs cells)∧SqL K H y (ofs way)∧ws ≠ []∧ws.length≤600∧cells.length≤36∧cells.Nodup∧way.length≤12∧n≤100∧(∀ x ∈ ws,x < 2 ^ n)∧
 (∀ H':Hp,Same H H'→Vbexai.coverFrom ws way cells 4 0=none→Q .non H')∧
 ∀ (H':Hp) (q:Addr) (r:List Nat),Same H H'→H q=none→H' q=some (.lst (ofs r))→r.length≤3→Vbexai.coverFrom ws way cells 4 0=some r→Q (.ref q) H'
theorem scLc:FnScope ["possible","cells","way","everything","struck","firm","cell","hole","size","cover"] ["possible","cells","way"] (defScope sLc):=⟨rfl,rfl,rfl,by decide +kernel,rfl,by decide +kernel,by decide +kernel⟩
theorem ok_lc {f f1 f2 f3:Addr} {fd fd1 fd2 fd3:FuncData} (F:Fun K "least_cover" "least_cover" sLc f fd) (B:Blt mg) (cM:Num mg "MOST_PROBES" 3)
  (G1:FnOk P w K mg base CX0 3 f1 fd1 ["possible","way"] (spFn K)) (k1:PySem.W.keepIn K (.ref f1)=true) (b1:Binds K fd1 ["possible","way"] []) (g1:mg "fields_not_clear"=some (.ref f1))
  (G2:FnOk P w K mg base CX0 2 f2 fd2 ["possible","cells"] (spFw K)) (k2:PySem.W.keepIn K (.ref f2)=true) (b2:Binds K fd2 ["possible","cells"] []) (g2:mg "fields_with_hole"=some (.ref f2))
  (G3:FnOk P w K mg base CX0 4 f3 fd3 ["firm","struck","left","start","size"] (spCov 3)) (k3:PySem.W.keepIn K (.ref f3)=true) (b3:Binds K fd3 ["firm","struck","left","start","size"] []) (g3:mg "cover_from"=some (.ref f3)) :
  FnOk P w K mg base CX0 5 f fd ["possible","cells","way"] (spLc K):=by
 obtain ⟨uM,eM,rM⟩:=cM
 refine F.ok scLc (fun vs H Q E h=>?_) (fun cdv A outer s H vs Q E hr h=>?_)
 ·obtain ⟨a,b,y,ws,cells,way,n,rfl,_⟩:=h
  rfl
 ·obtain ⟨a,b,y,ws,cells,way,n,rfl,hA,hB,hY,hne,hwl,hcl,hcn,hyl,hn,hw,kN,kS⟩:=h
  have nd:=scLc.nd
  have hr3:Room 3 _:=hr.mono (by decide)
  have hr2:Room 2 _:=hr.mono (by decide)
  refine ⟨_,pss_cons (ps_set (i:=3) nd rfl (Or.inr rfl) (pe_op op_sub (pe_op op_shl pe_int (pe_callB call_len_seq rfl B.len PySem.boot_len (pa_cons (pv 0) pa_nil))) pe_int))
   (pss_cons (ps_set (i:=4) nd rfl (Or.inl rfl) (pe_call G1 hr3 rfl g1 k1 b1 .nil pass0 (pa_cons (pv 0) (pa_cons (pv 2) pa_nil))))
   (pss_cons (ps_setLc (i:=5) rfl nd rfl rfl (sw_true rfl rfl rfl rfl) (pi_items (pe_frz (pe_call G2 hr2 rfl g2 k2 b2 .nil pass0 (pa_cons (pv 0) (pa_cons (pv 1) pa_nil)))))
    (blkOk_by (own:=[("cell",6),("hole",7)]) (by show blkC ["possible","cells","way","everything","struck","firm","cell","hole","size","cover"] (defScope sLc) _ _=true; decide +kernel))
    (fun _ _ _ _ _=>pg_tupK (n:=2) K rfl rfl (pgs_cons (pg_name (i:=6) nd rfl (Or.inl rfl)) (pgs_cons (pg_name (i:=7) nd rfl (Or.inl rfl)) pgs_nil))) (fun _ _ _ _ _=>pts_nil)
    (fun _ _ _ _ _=>pe_tup (pa_cons (pv 6) (pa_cons (pe_op op_xor (pv 3) (pv 7)) pa_nil))))
   (pss_cons (ps_for PassesOwn.never rfl (pi_range1 rfl B.range (pa_cons (pe_op op_add (pe_glob rfl eM rM) pe_int) pa_nil)) (pg_name (i:=8) nd rfl (Or.inl rfl))
    (pss_cons (ps_set (i:=9) nd rfl (Or.inl rfl) (pe_call G3 hr rfl g3 k3 b3 .nil pass0 (pa_cons (pv 5) (pa_cons (pv 4) (pa_cons (pv 3) (pa_cons pe_int (pa_cons (pv 8) pa_nil)))))))
    (pss_one (ps_if (pt_cmp (pc_notN (pv 9))) (pss_one (ps_ret (pv 9))) pss_nil))))
   (pss_one (ps_ret pe_non))))),?_⟩
  have hall:=bm_all ws
  have hp0:=Nat.two_pow_pos ws.length
  refine ⟨_,rfl,a,_,rfl,.inl hA,o1 rfl rfl ⟨by omega,by rw [ofs_len]; omega,by decide⟩ (v:=.int ((2 ^ ws.length:Nat):Int)) (by rw [ofs_len,Int.toNat_natCast,pow_nat]) (o0c rfl (v:=.int ((bm (fun _=>true) ws:Nat):Int)) (congrArg V.int (by rw [hall]; omega)) ?_)⟩
  refine ⟨_,rfl,_,rfl,a,y,ws,way,n,rfl,hA,hY,by omega,by omega,hn,hw,fun H1 S1=>?_⟩
  refine ⟨_,rfl,_,rfl,a,b,ws,cells,n,rfl,S1.seq hA,S1.seq hB,by omega,by omega,hn,hw,fun H2 d S2 nd2 hd=>⟨d,_,hd,trivial,fun od=>⟨d,od,_,rfl,upd_same,fun D hD=>?_⟩⟩⟩
  have S12:=S1.trans S2
  have nHd:H d=Option.none:=S1.free nd2
  have ndD:d ≠ D:=ne_of_none (o:=.frz od (.dK (fkv (wh ws cells)))) upd_same hD
  have nHD:H D=Option.none:=by
   rw [upd_ne (fun e=>ndD e.symm)] at hD
   exact S12.free hD
  have ewh:wh ws cells=wk cells fun c=>bm (fun x=>Vbexai.hole x c) ws:=by unfold wh; rw [dd_self hcn]
  refine lc_it (n:=cells.length) (fun i H'=>Same H H'∧H' d=some (.frz od (.dK (fkv (wh ws cells))))∧∃ as:List Addr,H' D=some (.lst (as.map V.ref))∧as.length=i∧∀ (j c:Nat),j < i→cells[j]?=some c→∃ a,as[j]?=some a∧H' a=some (.tup [.int (c:Nat),.int (bm (fun x=>!Vbexai.hole x c) ws:Nat)]))
   ⟨(S12.up nHd).up nHD,by rw [upd_ne ndD,upd_same],[],upd_same,rfl,fun j c hj=>by omega⟩ ?_ ?_ ?_ ?_
  ·rintro i H3 hi ⟨S3,h3,as,hD3,hal,hat⟩
   exact ⟨h3,by rw [fkv_len,ewh,wk_len]; exact hi⟩
  ·rintro H3 ⟨S3,h3,as,hD3,hal,hat⟩
   exact ⟨h3,by rw [fkv_len,ewh,wk_len]; exact Nat.le_refl _⟩
  ·rintro i H3 z H4 hi ⟨S3,h3,as,hD3,hal,hat⟩ ⟨tT,key,v,hy,rfl,nT,rfl⟩
   obtain ⟨r,hr',rfl,rfl⟩:=fkv_get hy
   rw [ewh] at hr'
   obtain ⟨c,hc⟩:∃ c,cells[i]?=some c:=⟨_,List.getElem?_eq_getElem hi⟩
   have er:r=(c,bm (fun x=>Vbexai.hole x c) ws):=by
    unfold wk at hr'
    rw [List.getElem?_map,hc] at hr'
    exact (Option.some.inj hr').symm
   subst er
   have nTd:d ≠ tT:=ne_of_none h3 nT
   have nTD:D ≠ tT:=ne_of_none hD3 nT
   refine ⟨tT,_,rfl,SqT.of upd_same,rfl,_,_,rfl,_,_,rfl,rfl,rfl,?_⟩
   unfold tYes
   dsimp only
   rw [if_pos rfl]
   refine ⟨_,rfl,_,rfl,_,rfl,o0 rfl rfl (v:=.int ((bm (fun x=>!Vbexai.hole x c) ws:Nat):Int)) (by rw [bitXor_nat,bm_compl]) ⟨(by show 2≤sizeLine; decide),fun t ht=>?_⟩⟩
   have nDt:D ≠ t:=fun e=>by rw [← e,upd_ne nTD,hD3] at ht; cases ht
   have ndt:d ≠ t:=fun e=>by rw [← e,upd_ne nTd,h3] at ht; cases ht
   refine ⟨_,(by rw [upd_ne nDt,upd_ne nTD]; exact hD3),(by rw [List.length_map,hal]; exact nsize (by omega)),((S3.new nT).new ht).up nHD,?_,as ++ [t],?_,?_,fun j c' hj hc'=>?_⟩
   ·rw [upd_ne ndD,upd_ne ndt,upd_ne nTd]; exact h3
   ·rw [upd_same,List.map_append]; rfl
   ·rw [List.length_append,hal]; rfl
   ·by_cases e:j=i
    ·subst e
     rw [hc] at hc'
     cases hc'
     refine ⟨t,?_,?_⟩
     ·rw [List.getElem?_append_right (by omega),hal,Nat.sub_self]; rfl
     ·rw [upd_ne (fun e=>nDt e.symm),upd_same]; rfl
    ·obtain ⟨a',ha',hh'⟩:=hat j c' (by omega) hc'
     refine ⟨a',by rw [List.getElem?_append_left (by omega)]; exact ha',?_⟩
     rw [upd_ne (fun e=>by rw [e,hD3] at hh'; cases hh'),upd_ne (fun e=>?_),upd_ne (ne_of_none hh' nT)]
     ·exact hh'
     ·rw [← e,upd_ne (ne_of_none hh' nT),hh'] at ht
      cases ht
  ·rintro H3 ⟨S3,h3,as,hD3,hal,hat⟩
   have hFirm:FirmAt H3 D ws cells:=⟨as,hD3,hal,fun j c hc=>hat j c (List.getElem?_eq_some_iff.mp hc).1 hc⟩
   refine ⟨_,_,rfl,rfl,_,rfl,by decide,by decide,?_⟩
   refine for_range (n:=4) (fun i σ H'=>(∃ v8 v9:Option V,σ=[some (.ref a),some (.ref b),some (.ref y),some (.int ((bm (fun _=>true) ws:Nat):Int)),some (.int (stk ws way:Nat)),some (.ref D),none,none,v8,v9])∧Same H H'∧FirmAt H' D ws cells∧∀ k,k < i→cov ws way k cells (fun _=>true)=none)
    ⟨⟨none,none,rfl⟩,S3,hFirm,fun k hk=>by omega⟩ ?_ ?_
   ·rintro i σ H4 hi ⟨⟨v8,v9,rfl⟩,S4,hF4,hno⟩
    have e0:(0:Int) + (i:Int)=(i:Int):=by omega
    rw [e0]
    refine ⟨_,rfl,_,rfl,_,rfl,_,rfl,D,ws,way,cells,_,0,i,rfl,by omega,by omega,by omega,by omega,hF4,fun H5 S5 e=>?_,fun H5 q r S5 nq hq e=>?_⟩
    ·refine ⟨_,rfl,_,rfl,iteF ⟨⟨_,_,rfl⟩,S4.trans S5,hF4.same S5,fun k hk=>?_⟩⟩
     by_cases ek:k=i
     ·subst ek; exact e
     ·exact hno k (by omega)
    ·refine ⟨_,rfl,_,rfl,iteT ⟨_,rfl,?_⟩⟩
     have hrl:=cov_len _ _ _ _ _ _ e
     refine kS H5 q r (S4.trans S5) (S4.free nq) hq (by omega) (coverFrom_at ws way cells hne 4 0 i r hi (fun k hk=>by rw [Nat.zero_add]; exact hno k hk) (by rw [Nat.zero_add]; exact e))
   ·rintro σ H4 ⟨⟨v8,v9,rfl⟩,S4,hF4,hno⟩
    exact kN H4 S4 (coverFrom_no ws way cells hne 4 0 fun k hk=>by rw [Nat.zero_add]; exact hno k hk)
end
end Rp
namespace Rp
open PySem PySem.Spec PyProof.Rows L2
theorem pe_never {X:Cx} {e:Expr}:PE X e (fun _ _ _=>False):=fun _ _ _ _ _ _ h=>h.elim
theorem setl_test (ws way:List Nat) (p:Nat→Bool):(decide (V.int ((bm (fun x=>p x && !Vbexai.clear x way) ws:Nat):Int)=V.int 0) || decide (V.int ((bm (fun x=>p x && !Vbexai.clear x way) ws:Nat):Int)=V.int ((bm p ws:Nat):Int)))=setl ws way p:=by
 unfold setl
 congr 1
 ·rw [dec_int]
  have h:=bm_zero (fun x=>p x && !Vbexai.clear x way) ws
  rw [Bool.eq_iff_iff,decide_eq_true_iff,List.all_eq_true]
  constructor
  ·intro e x hx
   have:=h.mp (by omega) x hx
   revert this
   cases p x <;> cases Vbexai.clear x way <;> simp
  ·intro e
   have:=h.mpr fun x hx=>by
    have:=e x hx
    revert this
    cases p x <;> cases Vbexai.clear x way <;> simp
   rw [this]; rfl
 ·rw [dec_int]
  have h:=bm_eq (fun x=>p x && !Vbexai.clear x way) p ws
  rw [Bool.eq_iff_iff,decide_eq_true_iff,List.all_eq_true]
  constructor
  ·intro e x hx
   have:=h.mp (by omega) x hx
   revert this
   cases p x <;> cases Vbexai.clear x way <;> simp
  ·intro e
   have:=h.mpr fun x hx=>by
    have:=e x hx
    revert this
    cases p x <;> cases Vbexai.clear x way <;> simp
   rw [this]
theorem prop_test (ws:List Nat) (p:Nat→Bool) (c:Nat):(decide (V.int ((bm (fun x=>p x && Vbexai.hole x c) ws:Nat):Int)=V.int 0) || decide (V.int ((bm (fun x=>p x && Vbexai.hole x c) ws:Nat):Int)=V.int ((bm p ws:Nat):Int)))=!prop ws p c:=by
 unfold prop
 rw [Bool.not_and]
 congr 1
 ·exact bm_test ws _
 ·rw [dec_int]
  have h:=bm_eq (fun x=>p x && Vbexai.hole x c) p ws
  rw [Bool.eq_iff_iff,decide_eq_true_iff,Bool.not_eq_true',List.any_eq_false]
  constructor
  ·intro e x hx
   have:=h.mp (by omega) x hx
   revert this
   cases p x <;> cases Vbexai.hole x c <;> simp
  ·intro e
   have:=h.mpr fun x hx=>by
    have:=e x hx
    revert this
    cases p x <;> cases Vbexai.hole x c <;> simp
   rw [this]
theorem find_split {α:Type} {l:List α} {i:Nat} {x:α} {q:α→Bool} (hx:l[i]?=some x) (hq:q x=true) (hn:∀ y ∈ l.take i,q y=false):l.find? q=some x:=by
 have hsplit:l=l.take i ++ x::l.drop (i + 1):=by
  have z:=List.take_append_drop i l
  rw [List.drop_eq_getElem_cons (List.getElem?_eq_some_iff.mp hx).1,(List.getElem?_eq_some_iff.mp hx).2] at z
  exact z.symm
 rw [hsplit,List.find?_append,List.find?_cons,hq]
 have:(l.take i).find? q=none:=List.find?_eq_none.mpr fun y hy=>by rw [hn y hy]; decide
 rw [this]; rfl
section
variable {P:Program} {w:World} {K:PySem.W.Frag} {mg:Str→Option Value} {base:Heap}
abbrev sIs:Stmt:=top 26
def spIs:Sp:=fun vs H Q _=>∃ (ws way:List Nat) (p:Nat→Bool),vs=[.int (stk ws way:Nat),.int (bm p ws:Nat)]∧Q (.bl (setl ws way p)) H
theorem scIs:FnScope ["struck","left","both"] ["struck","left"] (defScope sIs):=⟨rfl,rfl,rfl,by decide +kernel,rfl,by decide +kernel,by decide +kernel⟩
theorem ok_is {f:Addr} {fd:FuncData} (F:Fun K "is_settled" "is_settled" sIs f fd):FnOk P w K mg base CX0 1 f fd ["struck","left"] spIs:=by
 refine F.ok scIs (fun vs H Q E h=>?_) (fun cdv A outer s H vs Q E hr h=>?_)
 ·obtain ⟨ws,way,p,rfl,_⟩:=h
  rfl
 ·obtain ⟨ws,way,p,rfl,k⟩:=h
  have nd:=scIs.nd
  refine ⟨_,pss_cons (ps_set (i:=2) nd rfl (Or.inl rfl) (pe_op op_and (pv 1) (pv 0)))
   (pss_one (ps_ret (pe_or (pe_cmpR op_eq (pv 2) pe_int (nomark _)) (pe_one (pe_cmpR op_eq (pv 2) (pv 1) (nomark _)))))),?_⟩
  refine ⟨_,rfl,_,rfl,o0 rfl rfl (v:=.int ((bm (fun x=>p x && !Vbexai.clear x way) ws:Nat):Int)) (by rw [bitAnd_nat,bm_and]) ?_⟩
  rw [← setl_test] at k
  refine ⟨_,rfl,rfl,_,rfl,ite2 (fun h1=>?_) (fun h1=>?_)⟩
  ·rw [h1,Bool.true_or] at k
   exact k
  ·rw [Bool.eq_false_iff.mpr h1,Bool.false_or] at k
   exact ⟨_,rfl,_,rfl,rfl,k⟩
abbrev sEn:Stmt:=top 27
abbrev sFp:Stmt:=top 28
abbrev whc (ws cells:List Nat):List (Nat × Nat):=wk cells fun c=>bm (fun x=>Vbexai.hole x c) ws
def spEn (n:Nat):Sp:=fun vs H Q _=>∃ (d:Addr) (od:Obj) (ws way cells:List Nat) (p:Nat→Bool) (k:Nat),vs=[.ref d,.int (stk ws way:Nat),.int (bm p ws:Nat),.int (k:Nat)]∧k≤n∧n≤3∧H d=some (.frz od (.dK (fkv (whc ws cells))))∧
 ∀ H':Hp,Same H H'→Q (.bl (en ws way cells k p)) H'
def spFp (n:Nat):Sp:=fun vs H Q _=>∃ (d:Addr) (od:Obj) (ws way cells:List Nat) (p:Nat→Bool) (k:Nat),vs=[.ref d,.int (stk ws way:Nat),.int (bm p ws:Nat),.int ((k + 1:Nat):Int)]∧k + 1≤n∧n≤3∧H d=some (.frz od (.dK (fkv (whc ws cells))))∧
 ∀ H':Hp,Same H H'→Q (nbV (fp ws way cells k p)) H'
theorem scEn:FnScope ["with_hole","struck","left","probes"] ["with_hole","struck","left","probes"] (defScope sEn):=⟨rfl,rfl,rfl,by decide +kernel,rfl,by decide +kernel,by decide +kernel⟩
theorem scFp:FnScope ["with_hole","struck","left","probes","cell","hole","if_hole"] ["with_hole","struck","left","probes"] (defScope sFp):=⟨rfl,rfl,rfl,by decide +kernel,rfl,by decide +kernel,by decide +kernel⟩
theorem ok_en0 {f f1:Addr} {fd fd1:FuncData} (F:Fun K "is_enough" "is_enough" sEn f fd)
  (G1:FnOk P w K mg base CX0 1 f1 fd1 ["struck","left"] spIs) (k1:PySem.W.keepIn K (.ref f1)=true) (b1:Binds K fd1 ["struck","left"] []) (g1:mg "is_settled"=some (.ref f1)) :
  FnOk P w K mg base CX0 2 f fd ["with_hole","struck","left","probes"] (spEn 0):=by
 refine F.ok scEn (fun vs H Q E h=>?_) (fun cdv A outer s H vs Q E hr h=>?_)
 ·obtain ⟨d,od,ws,way,cells,p,k,rfl,_⟩:=h
  rfl
 ·obtain ⟨d,od,ws,way,cells,p,k,rfl,hk,_,hd,kk⟩:=h
  have e0:k=0:=by omega
  subst e0
  refine ⟨_,pss_cons (ps_if (pt_val (pe_call G1 hr rfl g1 k1 b1 .nil pass0 (pa_cons (pv 1) (pa_cons (pv 2) pa_nil)))) (pss_one (ps_ret pe_bl)) pss_nil)
   (pss_one (ps_ret (pe_and (pe_cmpR op_gt (pv 3) pe_int (nomark _)) pe_never))),?_⟩
  refine ⟨_,rfl,_,rfl,ws,way,p,rfl,_,rfl,ite2 (fun h1=>?_) (fun h1=>?_)⟩
  ·have:=kk H (Same.refl H)
   have e:en ws way cells 0 p=true:=h1
   rw [e] at this
   exact this
  ·have:=kk H (Same.refl H)
   have e:en ws way cells 0 p=false:=Bool.eq_false_iff.mpr h1
   rw [e] at this
   exact ⟨_,rfl,_,_,rfl,rfl,_,rfl,iteF this⟩
theorem ok_enS {n m:Nat} {f f1 f2:Addr} {fd fd1 fd2:FuncData} (F:Fun K "is_enough" "is_enough" sEn f fd) (hm:1≤m)
  (G1:FnOk P w K mg base CX0 1 f1 fd1 ["struck","left"] spIs) (k1:PySem.W.keepIn K (.ref f1)=true) (b1:Binds K fd1 ["struck","left"] []) (g1:mg "is_settled"=some (.ref f1))
  (G2:FnOk P w K mg base CX0 m f2 fd2 ["with_hole","struck","left","probes"] (spFp n)) (k2:PySem.W.keepIn K (.ref f2)=true) (b2:Binds K fd2 ["with_hole","struck","left","probes"] []) (g2:mg "first_probe"=some (.ref f2)) :
  FnOk P w K mg base CX0 (m + 1) f fd ["with_hole","struck","left","probes"] (spEn n):=by
 refine F.ok scEn (fun vs H Q E h=>?_) (fun cdv A outer s H vs Q E hr h=>?_)
 ·obtain ⟨d,od,ws,way,cells,p,k,rfl,_⟩:=h
  rfl
 ·obtain ⟨d,od,ws,way,cells,p,k,rfl,hk,hn3,hd,kk⟩:=h
  have hr1:Room 1 _:=hr.mono hm
  refine ⟨_,pss_cons (ps_if (pt_val (pe_call G1 hr1 rfl g1 k1 b1 .nil pass0 (pa_cons (pv 1) (pa_cons (pv 2) pa_nil)))) (pss_one (ps_ret pe_bl)) pss_nil)
   (pss_one (ps_ret (pe_and (pe_cmpR op_gt (pv 3) pe_int (nomark _)) (pe_one (pe_cmp (pc_notN (pe_call G2 hr rfl g2 k2 b2 .nil pass0 (pa_cons (pv 0) (pa_cons (pv 1) (pa_cons (pv 2) (pa_cons (pv 3) pa_nil))))))))))),?_⟩
  refine ⟨_,rfl,_,rfl,ws,way,p,rfl,_,rfl,ite2 (fun h1=>?_) (fun h1=>?_)⟩
  ·have:=kk H (Same.refl H)
   have e:en ws way cells k p=true:=by
    cases k with
    |zero=>exact h1
    |succ k=>rw [en_succ,h1]; rfl
   rw [e] at this
   exact this
  ·have h1':setl ws way p=false:=Bool.eq_false_iff.mpr h1
   cases k with
   |zero=>
    have:=kk H (Same.refl H)
    have e:en ws way cells 0 p=false:=h1'
    rw [e] at this
    exact ⟨_,rfl,_,_,rfl,rfl,_,rfl,iteF this⟩
   |succ k=>
    refine ⟨_,rfl,_,_,rfl,rfl,_,rfl,?_⟩
    have ht:decide ((0:Int) < ((k + 1:Nat):Int))=true:=decide_eq_true (by omega)
    rw [ht]
    refine iteT ⟨_,rfl,_,rfl,_,rfl,_,rfl,d,od,ws,way,cells,p,k,rfl,hk,hn3,hd,fun H1 S1=>?_⟩
    have:=kk H1 S1
    rw [en_succ,h1',Bool.false_or] at this
    have e:(!decide (nbV (fp ws way cells k p)=V.non))=(fp ws way cells k p).isSome:=by
     cases fp ws way cells k p <;> rfl
    rw [← e] at this
    exact this
theorem ok_fp {n m:Nat} {f f1:Addr} {fd fd1:FuncData} (F:Fun K "first_probe" "first_probe" sFp f fd)
  (G1:FnOk P w K mg base CX0 m f1 fd1 ["with_hole","struck","left","probes"] (spEn n)) (k1:PySem.W.keepIn K (.ref f1)=true) (b1:Binds K fd1 ["with_hole","struck","left","probes"] []) (g1:mg "is_enough"=some (.ref f1)) :
  FnOk P w K mg base CX0 (m + 1) f fd ["with_hole","struck","left","probes"] (spFp (n + 1)):=by
 refine F.ok scFp (fun vs H Q E h=>?_) (fun cdv A outer s H vs Q E hr h=>?_)
 ·obtain ⟨d,od,ws,way,cells,p,k,rfl,_⟩:=h
  rfl
 ·obtain ⟨d,od,ws,way,cells,p,k,rfl,hk,hn3,hd,kk⟩:=h
  have nd:=scFp.nd
  refine ⟨_,pss_cons (ps_for PassesOwn.never rfl (pi_items (pv 0)) (pg_tup rfl (pgs_cons (pg_name (i:=4) nd rfl (Or.inl rfl)) (pgs_cons (pg_name (i:=5) nd rfl (Or.inl rfl)) pgs_nil)))
    (pss_cons (ps_set (i:=6) nd rfl (Or.inl rfl) (pe_op op_and (pv 2) (pv 5)))
    (pss_cons (ps_if (pw_or (pt_cmpR op_eq (pv 6) pe_int (nomark _)) (pw_or1 (pt_cmpR op_eq (pv 6) (pv 2) (nomark _)))).pt (pss_one ps_continue) pss_nil)
    (pss_cons (ps_if (pt_not (pt_val (pe_call G1 hr rfl g1 k1 b1 .nil pass0 (pa_cons (pv 0) (pa_cons (pv 1) (pa_cons (pv 6) (pa_cons (pe_op op_sub (pv 3) pe_int) pa_nil))))))) (pss_one ps_continue) pss_nil)
    (pss_one (ps_if (pt_val (pe_call G1 hr rfl g1 k1 b1 .nil pass0 (pa_cons (pv 0) (pa_cons (pv 1) (pa_cons (pe_op op_xor (pv 2) (pv 6)) (pa_cons (pe_op op_sub (pv 3) pe_int) pa_nil)))))) (pss_one (ps_ret (pv 4))) pss_nil))))))
   (pss_one (ps_ret pe_non)),?_⟩
  have hlen:(fkv (whc ws cells)).length=cells.length:=by rw [fkv_len,wk_len]
  refine ⟨_,rfl,d,od,_,rfl,hd,for_it (n:=cells.length) (fun i σ H'=>(∃ v4 v5 v6:Option V,σ=[some (.ref d),some (.int (stk ws way:Nat)),some (.int (bm p ws:Nat)),some (.int ((k + 1:Nat):Int)),v4,v5,v6])∧Same H H'∧∀ c ∈ cells.take i,(prop ws p c && (en ws way cells k (fun x=>p x && Vbexai.hole x c) && en ws way cells k (fun x=>p x && !Vbexai.hole x c)))=false)
   ⟨⟨none,none,none,rfl⟩,Same.refl H,fun c hc=>by cases hc⟩ ?_ ?_ ?_ ?_⟩
  ·rintro i σ H1 hi ⟨_,S1,hno⟩
   exact ⟨S1 _ _ hd,by rw [hlen]; exact hi⟩
  ·rintro σ H1 ⟨_,S1,hno⟩
   exact ⟨S1 _ _ hd,by rw [hlen]; exact Nat.le_refl _⟩
  ·rintro i σ H1 y H2 hi ⟨⟨v4,v5,v6,rfl⟩,S1,hno⟩ ⟨tT,key,v,hy,rfl,nT,rfl⟩
   obtain ⟨r,hr',rfl,rfl⟩:=fkv_get hy
   obtain ⟨c,hc⟩:∃ c,cells[i]?=some c:=⟨_,List.getElem?_eq_getElem hi⟩
   have er:r=(c,bm (fun x=>Vbexai.hole x c) ws):=by
    unfold whc wk at hr'
    rw [List.getElem?_map,hc] at hr'
    exact (Option.some.inj hr').symm
   subst er
   have S2:=S1.new (o:=.tup [kV (Sum.inl (c:Int)),.int (bm (fun x=>Vbexai.hole x c) ws:Nat)]) nT
   have next:∀ {H3:Hp} {a b z:V},Same H H3→(prop ws p c && (en ws way cells k (fun x=>p x && Vbexai.hole x c) && en ws way cells k (fun x=>p x && !Vbexai.hole x c)))=false→
     (∃ v4 v5 v6:Option V,([some (.ref d),some (.int (stk ws way:Nat)),some (.int (bm p ws:Nat)),some (.int ((k + 1:Nat):Int)),some a,some b,some z]:List (Option V))=[some (.ref d),some (.int (stk ws way:Nat)),some (.int (bm p ws:Nat)),some (.int ((k + 1:Nat):Int)),v4,v5,v6])∧Same H H3∧∀ c ∈ cells.take (i + 1),(prop ws p c && (en ws way cells k (fun x=>p x && Vbexai.hole x c) && en ws way cells k (fun x=>p x && !Vbexai.hole x c)))=false:=fun S3 hf=>
    ⟨⟨_,_,_,rfl⟩,S3,fun c' hc'=>by
     rw [take_snoc hc,List.mem_append,List.mem_singleton] at hc'
     rcases hc' with hc' | rfl
     ·exact hno c' hc'
     ·exact hf⟩
   refine ⟨tT,_,rfl,SqT.of upd_same,rfl,_,_,rfl,_,_,rfl,rfl,?_⟩
   refine ⟨_,rfl,_,rfl,o0 rfl rfl (v:=.int ((bm (fun x=>p x && Vbexai.hole x c) ws:Nat):Int)) (by rw [bitAnd_nat,bm_and]) ?_⟩
   have pt:=prop_test ws p c
   have stop:prop ws p c=false→(prop ws p c && (en ws way cells k (fun x=>p x && Vbexai.hole x c) && en ws way cells k (fun x=>p x && !Vbexai.hole x c)))=false:=fun h=>by rw [h]; rfl
   refine ⟨_,rfl,rfl,_,rfl,ite2 (fun h1=>iteT (next S2 (stop ?_))) (fun h1=>?_)⟩
   ·rw [h1,Bool.true_or] at pt
    simpa using pt.symm
   rw [Bool.eq_false_iff.mpr h1,Bool.false_or] at pt
   refine ⟨_,rfl,_,rfl,rfl,_,rfl,ite2 (fun h2=>next S2 (stop ?_)) (fun h2=>?_)⟩
   ·rw [h2] at pt
    simpa using pt.symm
   have hprop:prop ws p c=true:=by
    rw [Bool.eq_false_iff.mpr h2] at pt
    simpa using pt.symm
   refine ⟨_,rfl,_,rfl,_,rfl,_,rfl,o0c rfl (v:=.int (k:Nat)) (congrArg V.int (by omega)) ?_⟩
   refine ⟨d,od,ws,way,cells,_,k,rfl,by omega,by omega,S2 _ _ hd,fun H3 S3=>⟨_,rfl,?_⟩⟩
   have S23:=S2.trans S3
   cases e1:en ws way cells k (fun x=>p x && Vbexai.hole x c) with
   |false=>exact iteT (next S23 (by rw [hprop,e1]; rfl))
   |true=>
    refine iteF ?_
    refine ⟨_,rfl,_,rfl,_,rfl,_,rfl,o0 rfl rfl (v:=.int ((bm (fun x=>p x && !Vbexai.hole x c) ws:Nat):Int)) (by rw [bitXor_nat,bm_xor]) ⟨_,rfl,o0c rfl (v:=.int (k:Nat)) (congrArg V.int (by omega)) ?_⟩⟩
    refine ⟨d,od,ws,way,cells,_,k,rfl,by omega,by omega,S23 _ _ hd,fun H4 S4=>⟨_,rfl,?_⟩⟩
    have S234:=S23.trans S4
    cases e2:en ws way cells k (fun x=>p x && !Vbexai.hole x c) with
    |false=>exact iteF (next S234 (by rw [hprop,e1,e2]; rfl))
    |true=>
     refine iteT ⟨_,rfl,?_⟩
     have:=kk H4 S234
     have hf:fp ws way cells k p=some c:=by
      unfold fp
      exact find_split hc (by rw [hprop,e1,e2]; rfl) hno
     rw [hf] at this
     exact this
  ·rintro σ H1 ⟨⟨v4,v5,v6,rfl⟩,S1,hno⟩
   rw [List.take_length] at hno
   have:=kk H1 S1
   have hf:fp ws way cells k p=none:=by
    unfold fp
    exact List.find?_eq_none.mpr fun c hc=>by rw [hno c hc]; decide
   rw [hf] at this
   exact this
end
end Rp
namespace Rp
open PySem PySem.Spec PyProof.Rows L2
def planL (ws way cells:List Nat):Option (List Nat):=match (List.range 4).find? fun k=>Vbexai.known cells way k ws with
 |none=>none
 |some k=>some (k::(if k=0 then [] else match Vbexai.firstProbe cells way (k - 1) ws with
  |some c=>[c]
  |none=>[]))
theorem en_all (ws way cells:List Nat) (k:Nat):en ws way cells k (fun _=>true)=Vbexai.known cells way k ws:=by
 rw [en_known,List.filter_eq_self.mpr fun _ _=>rfl]
theorem plan_zero {ws way cells:List Nat} (h:setl ws way (fun _=>true)=true):planL ws way cells=some [0]:=by
 unfold planL
 have e:(List.range 4).find? (fun k=>Vbexai.known cells way k ws)=some 0:=find_first (by decide) (by rw [← en_all]; exact h) (fun d hd=>by omega)
 rw [e]
 rfl
theorem plan_at {ws way cells:List Nat} {i c:Nat} (hi:i < 3) (hno:∀ k,k≤i→en ws way cells k (fun _=>true)=false) (h:fp ws way cells i (fun _=>true)=some c):planL ws way cells=some [i + 1,c]:=by
 unfold planL
 have e:(List.range 4).find? (fun k=>Vbexai.known cells way k ws)=some (i + 1):=find_first (by omega) (by rw [← en_all,en_succ,h]; simp) (fun d hd=>by rw [← en_all]; exact hno d (by omega))
 rw [e]
 dsimp only
 rw [if_neg (Nat.succ_ne_zero i),Nat.add_sub_cancel,← fp_first ws way (hno i (Nat.le_refl _)),h]
theorem plan_no {ws way cells:List Nat} (hno:∀ k,k≤3→en ws way cells k (fun _=>true)=false):planL ws way cells=none:=by
 unfold planL
 have e:(List.range 4).find? (fun k=>Vbexai.known cells way k ws)=none:=List.find?_eq_none.mpr fun k hk=>by
  rw [← en_all,hno k (by have:=List.mem_range.mp hk; omega)]; decide
 rw [e]
section
variable {P:Program} {w:World} {K:PySem.W.Frag} {mg:Str→Option Value} {base:Heap}
abbrev sLp:Stmt:=top 29
def spLp (K:PySem.W.Frag):Sp:=fun vs H Q _=>∃ (a b y:Addr) (ws cells way:List Nat) (n:Nat),vs=[.ref a,.ref b,.ref y]∧SqL K H a (ofs ws)∧SqL K H b (ofs cells)∧SqL K H y (ofs way)∧ws.length≤600∧cells.length≤36∧cells.Nodup∧way.length≤12∧n≤100∧(∀ x ∈ ws,x < 2 ^ n)∧
 (∀ H':Hp,Same H H'→planL ws way cells=none→Q .non H')∧
 ∀ (H':Hp) (q:Addr) (r:List Nat),Same H H'→H q=none→H' q=some (.lst (ofs r))→planL ws way cells=some r→Q (.ref q) H'
theorem scLp:FnScope ["possible","cells","way","everything","struck","with_hole","probes","cell"] ["possible","cells","way"] (defScope sLp):=⟨rfl,rfl,rfl,by decide +kernel,rfl,by decide +kernel,by decide +kernel⟩
theorem ok_lp {m:Nat} {f f1 f2 f3 f4:Addr} {fd fd1 fd2 fd3 fd4:FuncData} (F:Fun K "least_plan" "least_plan" sLp f fd) (B:Blt mg) (cM:Num mg "MOST_PROBES" 3) (hm:3≤m)
  (G1:FnOk P w K mg base CX0 3 f1 fd1 ["possible","way"] (spFn K)) (k1:PySem.W.keepIn K (.ref f1)=true) (b1:Binds K fd1 ["possible","way"] []) (g1:mg "fields_not_clear"=some (.ref f1))
  (G2:FnOk P w K mg base CX0 2 f2 fd2 ["possible","cells"] (spFw K)) (k2:PySem.W.keepIn K (.ref f2)=true) (b2:Binds K fd2 ["possible","cells"] []) (g2:mg "fields_with_hole"=some (.ref f2))
  (G3:FnOk P w K mg base CX0 1 f3 fd3 ["struck","left"] spIs) (k3:PySem.W.keepIn K (.ref f3)=true) (b3:Binds K fd3 ["struck","left"] []) (g3:mg "is_settled"=some (.ref f3))
  (G4:FnOk P w K mg base CX0 m f4 fd4 ["with_hole","struck","left","probes"] (spFp 3)) (k4:PySem.W.keepIn K (.ref f4)=true) (b4:Binds K fd4 ["with_hole","struck","left","probes"] []) (g4:mg "first_probe"=some (.ref f4)) :
  FnOk P w K mg base CX0 (m + 1) f fd ["possible","cells","way"] (spLp K):=by
 obtain ⟨uM,eM,rM⟩:=cM
 refine F.ok scLp (fun vs H Q E h=>?_) (fun cdv A outer s H vs Q E hr h=>?_)
 ·obtain ⟨a,b,y,ws,cells,way,n,rfl,_⟩:=h
  rfl
 ·obtain ⟨a,b,y,ws,cells,way,n,rfl,hA,hB,hY,hwl,hcl,hcn,hyl,hn,hw,kN,kS⟩:=h
  have nd:=scLp.nd
  have hr3:Room 3 _:=hr.mono hm
  have hr2:Room 2 _:=hr3.mono (by decide)
  have hr1:Room 1 _:=hr3.mono (by decide)
  refine ⟨_,pss_cons (ps_set (i:=3) nd rfl (Or.inl rfl) (pe_op op_sub (pe_op op_shl pe_int (pe_callB call_len_seq rfl B.len PySem.boot_len (pa_cons (pv 0) pa_nil))) pe_int))
   (pss_cons (ps_set (i:=4) nd rfl (Or.inl rfl) (pe_call G1 hr3 rfl g1 k1 b1 .nil pass0 (pa_cons (pv 0) (pa_cons (pv 2) pa_nil))))
   (pss_cons (ps_if (pt_val (pe_call G3 hr1 rfl g3 k3 b3 .nil pass0 (pa_cons (pv 4) (pa_cons (pv 3) pa_nil)))) (pss_one (ps_ret (pe_lst (pa_cons pe_int pa_nil)))) pss_nil)
   (pss_cons (ps_set (i:=5) nd rfl (Or.inl rfl) (pe_call G2 hr2 rfl g2 k2 b2 .nil pass0 (pa_cons (pv 0) (pa_cons (pv 1) pa_nil))))
   (pss_cons (ps_lock (ps_for PassesOwn.never rfl (pi_range2 rfl B.range (pa_cons pe_int (pa_cons (pe_op op_add (pe_glob rfl eM rM) pe_int) pa_nil))) (pg_name (i:=6) nd rfl (Or.inl rfl))
    (pss_cons (ps_set (i:=7) nd rfl (Or.inl rfl) (pe_call G4 hr rfl g4 k4 b4 .nil pass0 (pa_cons (pv 5) (pa_cons (pv 4) (pa_cons (pv 3) (pa_cons (pv 6) pa_nil))))))
    (pss_one (ps_if (pt_cmp (pc_notN (pv 7))) (pss_one (ps_ret (pe_lst (pa_cons (pv 6) (pa_cons (pv 7) pa_nil))))) pss_nil)))))
   (pss_one (ps_ret pe_non)))))),?_⟩
  have hall:=bm_all ws
  have hp0:=Nat.two_pow_pos ws.length
  refine ⟨_,rfl,a,_,rfl,.inl hA,o1 rfl rfl ⟨by omega,by rw [ofs_len]; omega,by decide⟩ (v:=.int ((2 ^ ws.length:Nat):Int)) (by rw [ofs_len,Int.toNat_natCast,pow_nat]) (o0c rfl (v:=.int ((bm (fun _=>true) ws:Nat):Int)) (congrArg V.int (by rw [hall]; omega)) ?_)⟩
  refine ⟨_,rfl,_,rfl,a,y,ws,way,n,rfl,hA,hY,by omega,by omega,hn,hw,fun H1 S1=>?_⟩
  refine ⟨_,rfl,_,rfl,ws,way,_,rfl,_,rfl,ite2 (fun h1=>?_) (fun h1=>?_)⟩
  ·refine ⟨(by show 1≤sizeLine; decide),fun l hl=>?_⟩
   exact kS _ l [0] (S1.new hl) (S1.free hl) upd_same (plan_zero h1)
  ·have h1':setl ws way (fun _=>true)=false:=Bool.eq_false_iff.mpr h1
   refine ⟨_,rfl,_,rfl,a,b,ws,cells,n,rfl,S1.seq hA,S1.seq hB,by omega,by omega,hn,hw,fun H2 d S2 nd2 hd=>?_⟩
   have S12:=S1.trans S2
   have nHd:H d=Option.none:=S1.free nd2
   have ewh:wh ws cells=whc ws cells:=by unfold wh; rw [dd_self hcn]
   rw [ewh] at hd
   refine ⟨d,_,hd,trivial,fun od=>⟨_,_,rfl,rfl,_,_,rfl,⟨by decide,by decide,by decide,by decide⟩,?_⟩⟩
   refine for_range (n:=3) (fun i σ H'=>(∃ v6 v7:Option V,σ=[some (.ref a),some (.ref b),some (.ref y),some (.int ((bm (fun _=>true) ws:Nat):Int)),some (.int (stk ws way:Nat)),some (.ref d),v6,v7])∧Same H H'∧H' d=some (.frz od (.dK (fkv (whc ws cells))))∧∀ k,k≤i→en ws way cells k (fun _=>true)=false)
    ⟨⟨none,none,rfl⟩,S12.up nHd,upd_same,fun k hk=>?_⟩ ?_ ?_
   ·have:k=0:=by omega
    subst this
    exact h1'
   ·rintro i σ H3 hi ⟨⟨v6,v7,rfl⟩,S3,h3,hno⟩
    have e0:(1:Int) + (i:Int)=((i + 1:Nat):Int):=by omega
    rw [e0]
    refine ⟨_,rfl,_,rfl,_,rfl,_,rfl,d,od,ws,way,cells,_,i,rfl,by omega,by omega,h3,fun H4 S4=>?_⟩
    have S34:=S3.trans S4
    have h4:=S4 _ _ h3
    cases e:fp ws way cells i (fun _=>true) with
    |none=>
     refine ⟨_,rfl,_,rfl,iteF ⟨⟨_,_,rfl⟩,S34,h4,fun k hk=>?_⟩⟩
     by_cases ek:k=i + 1
     ·subst ek
      rw [en_succ,h1',e]; rfl
     ·exact hno k (by omega)
    |some c=>
     refine ⟨_,rfl,_,rfl,iteT ⟨_,rfl,_,rfl,(by show 2≤sizeLine; decide),fun l hl=>?_⟩⟩
     have nld:l ≠ d:=fun z=>by rw [z,h4] at hl; cases hl
     refine ⟨by rw [upd_ne (fun z=>nld z.symm)]; exact h4,?_⟩
     refine kS _ l [i + 1,c] ((S34.new hl).up nHd) (S34.free hl) ?_ (plan_at hi hno e)
     rw [upd_ne nld,upd_same]
     rfl
   ·rintro σ H3 ⟨⟨v6,v7,rfl⟩,S3,h3,hno⟩
    exact ⟨h3,kN _ (S3.up nHd) (plan_no hno)⟩
abbrev sBs:Stmt:=top 30
def spBs (K:PySem.W.Frag):Sp:=fun vs H Q _=>∃ (a b:Addr) (ws cells:List Nat) (n:Nat),vs=[.ref a,.int (ws.length:Nat),.ref b]∧SqL K H a (ofs (cnts ws n))∧SqL K H b (ofs cells)∧(∀ c ∈ cells,c < n)∧ws.length≤100000∧
 (∀ H':Hp,Same H H'→Vbexai.splitCell ws cells=none→Q .non H')∧
 ∀ (H':Hp) (q:Addr) (c:Nat),Same H H'→H q=none→H' q=some (.lst (ofs [c,Vbexai.worst ws c]))→Vbexai.splitCell ws cells=some c→Q (.ref q) H'
theorem scBs:FnScope ["counts","total","cells","best","cell","at_worst"] ["counts","total","cells"] (defScope sBs):=⟨rfl,rfl,rfl,by decide +kernel,rfl,by decide +kernel,by decide +kernel⟩
def BestAt (H0 H:Hp) (ws:List Nat):Option Nat→V→Prop
 |none,v=>v=.non
 |some c,v=>∃ q,v=.ref q∧H0 q=none∧H q=some (.lst (ofs [c,Vbexai.worst ws c]))
theorem ok_bs {f:Addr} {fd:FuncData} (F:Fun K "best_split" "best_split" sBs f fd) (B:Blt mg):FnOk P w K mg base CX0 1 f fd ["counts","total","cells"] (spBs K):=by
 refine F.ok scBs (fun vs H Q E h=>?_) (fun cdv A outer s H vs Q E hr h=>?_)
 ·obtain ⟨a,b,ws,cells,n,rfl,_⟩:=h
  rfl
 ·obtain ⟨a,b,ws,cells,n,rfl,hA,hB,hc,hwl,kN,kS⟩:=h
  have nd:=scBs.nd
  refine ⟨_,pss_cons (ps_set (i:=3) nd rfl (Or.inl rfl) pe_non)
   (pss_cons (ps_for PassesOwn.never rfl (pi_list (pv 2)) (pg_name (i:=4) nd rfl (Or.inl rfl))
    (pss_cons (ps_set (i:=5) nd rfl (Or.inl rfl) (pe_callB (call_max2 rfl) rfl B.max (by decide +kernel) (pa_cons (pe_ix ix_list (pv 0) (pv 4) (fun _ _=>rfl)) (pa_cons (pe_op op_sub (pv 1) (pe_ix ix_list (pv 0) (pv 4) (fun _ _=>rfl))) pa_nil))))
    (pss_one (ps_if (pw_or (pt_cmp (pc_isN (pv 3))) (pw_or1 (pt_cmpR op_lt (pv 5) (pe_ix ix_list (pv 3) pe_int (fun _ _=>rfl)) (nomark _)))).pt (pss_one (ps_set (i:=3) nd rfl (Or.inl rfl) (pe_lst (pa_cons (pv 4) (pa_cons (pv 5) pa_nil))))) pss_nil))))
   (pss_one (ps_ret (pv 3)))),?_⟩
  refine ⟨_,rfl,b,rfl,⟨_,hB⟩,for_list (xs:=ofs cells) (fun i σ H'=>∃ (v3:V) (v4 v5:Option V),σ=[some (.ref a),some (.int (ws.length:Nat)),some (.ref b),some v3,v4,v5]∧Same H H'∧BestAt H H' ws (Vbexai.splitCell ws (cells.take i)) v3) ⟨.non,none,none,rfl,Same.refl H,rfl⟩ (fun i σ H' _ ⟨_,_,_,_,S,_⟩=>S.seq hB) ?_ ?_⟩
  ·rintro i y σ H1 hi ⟨v3,v4,v5,rfl,S1,hb⟩
   obtain ⟨c,hci,rfl⟩:=ofs_get hi
   have hcn:=hc c (List.mem_of_getElem? hci)
   have hcl:ws.countP (fun x=>Vbexai.hole x c)≤ws.length:=List.countP_le_length
   have hat:(ofs (cnts ws n))[c]?=some (.int ((ws.countP fun x=>Vbexai.hole x c:Nat):Int)):=by
    unfold ofs cnts
    rw [List.getElem?_map,map_range_at _ hcn]; rfl
   have hw:=worst_eq ws c
   refine ⟨_,rfl,_,rfl,a,_,_,_,rfl,rfl,S1.seq hA,atI_nat hat,_,rfl,_,rfl,_,rfl,a,_,_,_,rfl,rfl,S1.seq hA,atI_nat hat,o0 rfl rfl (v:=.int ((ws.length - ws.countP (fun x=>Vbexai.hole x c):Nat):Int)) (congrArg V.int (by omega)) ?_⟩
   refine ⟨_,_,rfl,?_⟩
   have ev:(if ((ws.length - ws.countP (fun x=>Vbexai.hole x c):Nat):Int) > ((ws.countP (fun x=>Vbexai.hole x c):Nat):Int) then ((ws.length - ws.countP (fun x=>Vbexai.hole x c):Nat):Int) else ((ws.countP (fun x=>Vbexai.hole x c):Nat):Int))=((Vbexai.worst ws c:Nat):Int):=by
    rw [hw]
    split <;> omega
   rw [ev]
   have made:∀ {H2:Hp} {l:Addr} {v4 v5:Option V},Same H H2→H2 l=Option.none→Vbexai.splitCell ws (cells.take (i + 1))=some c→∃ (v3:V) (v4' v5':Option V),([some (.ref a),some (.int (ws.length:Nat)),some (.ref b),some (.ref l),v4,v5]:List (Option V))=[some (.ref a),some (.int (ws.length:Nat)),some (.ref b),some v3,v4',v5']∧Same H (upd H2 l (.lst [.int (c:Nat),.int (Vbexai.worst ws c:Nat)]))∧BestAt H (upd H2 l (.lst [.int (c:Nat),.int (Vbexai.worst ws c:Nat)])) ws (Vbexai.splitCell ws (cells.take (i + 1))) v3:=fun {H2 l v4 v5} S2 hl e=>by
    refine ⟨.ref l,v4,v5,rfl,S2.new hl,?_⟩
    rw [e]
    exact ⟨l,rfl,S2.free hl,upd_same⟩
   have hsn:=split_snoc ws c (cells.take i)
   rw [← take_snoc hci] at hsn
   cases e:Vbexai.splitCell ws (cells.take i) with
   |none=>
    rw [e] at hb hsn
    have hb:v3=.non:=hb
    subst hb
    refine ⟨_,rfl,_,rfl,iteT (iteT ?_)⟩
    refine ⟨_,rfl,_,rfl,(by show 2≤sizeLine; decide),fun l hl=>?_⟩
    exact made S1 hl hsn
   |some c'=>
    rw [e] at hb hsn
    obtain ⟨q,rfl,nq,hq⟩:=hb
    dsimp only at hsn
    refine ⟨_,rfl,_,rfl,iteF ?_⟩
    refine ⟨_,rfl,_,rfl,q,_,_,_,rfl,rfl,SqL.of hq,rfl,_,_,rfl,rfl,_,rfl,ite2 (fun h2=>?_) (fun h2=>?_)⟩
    ·have h2':Vbexai.worst ws c < Vbexai.worst ws c':=by have:=of_decide_eq_true h2; omega
     rw [if_pos h2'] at hsn
     refine ⟨_,rfl,_,rfl,(by show 2≤sizeLine; decide),fun l hl=>?_⟩
     exact made S1 hl hsn
    ·have h2':¬ Vbexai.worst ws c < Vbexai.worst ws c':=fun z=>h2 (decide_eq_true (by omega))
     rw [if_neg h2'] at hsn
     refine ⟨.ref q,_,_,rfl,S1,?_⟩
     rw [hsn]
     exact ⟨q,rfl,nq,hq⟩
  ·rintro σ H1 ⟨v3,v4,v5,rfl,S1,hb⟩
   rw [ofs_len,List.take_length] at hb
   refine ⟨_,rfl,?_⟩
   cases e:Vbexai.splitCell ws cells with
   |none=>
    rw [e] at hb
    have hb:v3=.non:=hb
    subst hb
    exact kN H1 S1 e
   |some c=>
    rw [e] at hb
    obtain ⟨q,rfl,nq,hq⟩:=hb
    exact kS H1 q c S1 nq hq e
end
end Rp
namespace Rp
open PySem PySem.Spec PyProof.Rows L2
abbrev ivs (l:List Int):List V:=l.map V.int
theorem ivs_get {ns:List Int} {i:Nat} {y:V} (h:(ivs ns)[i]?=some y):∃ n,ns[i]?=some n∧y=.int n:=by
 unfold ivs at h
 rw [List.getElem?_map] at h
 cases e:ns[i]? with
 |none=>rw [e] at h; cases h
 |some z=>rw [e] at h; exact ⟨z,rfl,(Option.some.inj h).symm⟩
theorem ivs_len (ns:List Int):(ivs ns).length=ns.length:=List.length_map _
theorem ivs_at {ns:List Int} {i:Nat} {n:Int} (h:ns[i]?=some n):(ivs ns)[i]?=some (.int n):=by
 unfold ivs
 rw [List.getElem?_map,h]; rfl
theorem sIx_nat (n d:Nat) (i:Nat) (h:i≤n):HT.sIx n d (some (i:Int))=i:=by
 unfold HT.sIx
 have h1:¬ ((i:Int) < 0):=by omega
 simp only [h1,if_false]
 omega
theorem isWay_zip {f:Vbexai.Form}:∀ l:List Nat,(∀ c ∈ l,c < f.w * f.h)→l ≠ []→Vbexai.isWay f l=(l.zip (l.drop 1)).all fun q=>Vbexai.besides f q.1 q.2
 | [],_,h=>absurd rfl h
 | [a],h,_=>by
  show decide (a < f.w * f.h)=true
  exact decide_eq_true (h a (by simp))
 |a::b::l,h,_=>by
  show (decide (a < f.w * f.h) && (Vbexai.besides f a b && Vbexai.isWay f (b::l)))=_
  rw [decide_eq_true (h a (by simp)),Bool.true_and,isWay_zip (b::l) (fun c hc=>h c (List.mem_cons_of_mem _ hc)) (by simp)]
  rfl
section
variable {P:Program} {w:World} {K:PySem.W.Frag} {mg:Str→Option Value} {base:Heap}
abbrev sLo:Stmt:=top 35
def spLo:Sp:=fun vs H Q _=>∃ (f:Vbexai.Form) (a b:Nat),vs=[.int f.w,.int f.h,.int (a:Nat),.int (b:Nat)]∧(1≤f.w∧f.w≤6∧f.h≤6∧a < f.w * f.h)∧∀ H':Hp,Same H H'→Q (.bl (Vbexai.besides f a b)) H'
theorem scLo:FnScope ["width","height","cell","other","direction"] ["width","height","cell","other"] (defScope sLo):=⟨rfl,rfl,rfl,by decide +kernel,rfl,by decide +kernel,by decide +kernel⟩
theorem ok_lo {f f1:Addr} {fd fd1:FuncData} (F:Fun K "leads_on" "leads_on" sLo f fd) (B:Blt mg) (T:StepsOk K mg)
  (G1:FnOk P w K mg base CX0 1 f1 fd1 ["width","height","cell","direction"] spNb) (k1:PySem.W.keepIn K (.ref f1)=true) (b1:Binds K fd1 ["width","height","cell","direction"] []) (g1:mg "neighbour"=some (.ref f1)) :
  FnOk P w K mg base CX0 2 f fd ["width","height","cell","other"] spLo:=by
 obtain ⟨aS,as,gS,hS,hl8,hat⟩:=T.ex
 refine F.ok scLo (fun vs H Q E h=>?_) (fun cdv A outer s H vs Q E hr h=>?_)
 ·obtain ⟨fo,a,b,rfl,_⟩:=h
  rfl
 ·obtain ⟨fo,a,b,rfl,⟨hw1,hw6,hh6,ha⟩,k⟩:=h
  have nd:=scLo.nd
  refine ⟨_,pss_one (ps_ret (pe_callB (cr_any rfl) rfl B.any (by decide +kernel) (pa_cons (pe_lc rfl nd (pi_range1 rfl B.range (pa_cons (pe_callB call_len_seq rfl B.len PySem.boot_len (pa_cons (pe_glob (v:=.ref aS) rfl gS rfl) pa_nil)) pa_nil))
   (blkOk_by (own:=[("direction",4)]) (by show blkC ["width","height","cell","other","direction"] (defScope sLo) _ _=true; decide +kernel))
   (fun _ _ _ _ _=>pg_name (i:=4) nd rfl (Or.inl rfl)) (fun _ _ _ _ _=>pts_nil)
   (fun _ _ _ _ _=>pe_cmpR op_eq (pe_call G1 hr rfl g1 k1 b1 .nil pass0 (pa_cons (pv 0) (pa_cons (pv 1) (pa_cons (pv 2) (pa_cons (pv 4) pa_nil))))) (pv 3) (nomark _))) pa_nil))),?_⟩
  have hl8':(as.map V.ref).length=8:=by rw [List.length_map,hl8]
  refine ⟨aS,_,rfl,.inr (hS _),_,rfl,(by rw [hl8']; decide),(by rw [hl8']; decide),fun D hD=>?_⟩
  rw [hl8']
  refine lc_range (n:=8) (fun i H'=>Same H H'∧H' D=some (.lst (((List.range i).map fun d=>Vbexai.toward fo a d == some b).map V.bl))) ⟨(Same.refl H).new hD,upd_same⟩ ?_ ?_
  ·rintro i H1 hi ⟨S1,hd⟩
   have e0:(0:Int) + (i:Int)=(i:Int):=by omega
   rw [e0]
   refine ⟨rfl,?_⟩
   unfold tYes
   dsimp only
   rw [if_pos rfl]
   refine ⟨_,rfl,_,rfl,_,rfl,_,rfl,fo,a,i,rfl,⟨hw1,hw6,hh6,ha,hi⟩,_,rfl,?_,_,hd,(by rw [List.length_map,List.length_map,List.length_range]; exact nsize (by omega)),S1.up hD,?_⟩
   ·cases Vbexai.toward fo a i <;> rfl
   ·rw [upd_same,List.range_succ,List.map_append,List.map_append]
    have e:decide (nbV (Vbexai.toward fo a i)=V.int (b:Nat))=(Vbexai.toward fo a i == some b):=by
     cases Vbexai.toward fo a i with
     |none=>rfl
     |some q=>
      show decide (V.int (q:Nat)=V.int (b:Nat))=_
      rw [Rp.dec_int]
      by_cases z:q=b
      ·subst z; simp
      ·rw [decide_eq_false (by omega)]
       simp [z]
    rw [e]
    rfl
  ·rintro H1 ⟨S1,hd⟩
   refine ⟨D,_,rfl,SqL.of hd,?_⟩
   have:=k H1 S1
   unfold Vbexai.besides at this
   rw [List.any_map]
   exact this
abbrev sIw:Stmt:=top 36
def spIw (K:PySem.W.Frag):Sp:=fun vs H Q _=>∃ (st:Vbexai.St) (a:Addr) (p:List Int),vs=[.int st.form.w,.int st.form.h,.ref a]∧FormOk st.form∧SqL K H a (ivs p)∧p.length≤1000∧∀ H':Hp,Same H H'→Q (.bl (Vbexai.wayOk st p)) H'
theorem scIw:FnScope ["width","height","cells","cell","other"] ["width","height","cells"] (defScope sIw):=⟨rfl,rfl,rfl,by decide +kernel,rfl,by decide +kernel,by decide +kernel⟩
theorem cell_dec {st:Vbexai.St} (h:FormOk st.form) (c:Int):(decide (0≤c) && decide (c < ((st.form.w * st.form.h:Nat):Int)))=Vbexai.isCell st c:=by
 unfold Vbexai.isCell Vbexai.within
 have:=h.wh1
 congr 1
 by_cases q:c < ((st.form.w * st.form.h:Nat):Int)
 ·rw [decide_eq_true q,decide_eq_true (by omega)]
 ·rw [decide_eq_false q,decide_eq_false (by omega)]
theorem ok_iw {f f1:Addr} {fd fd1:FuncData} (F:Fun K "is_way" "is_way" sIw f fd) (B:Blt mg) (cL:Num mg "LONGEST_WAY" 12)
  (G1:FnOk P w K mg base CX0 2 f1 fd1 ["width","height","cell","other"] spLo) (k1:PySem.W.keepIn K (.ref f1)=true) (b1:Binds K fd1 ["width","height","cell","other"] []) (g1:mg "leads_on"=some (.ref f1)) :
  FnOk P w K mg base CX0 3 f fd ["width","height","cells"] (spIw K):=by
 obtain ⟨uL,eL,rL⟩:=cL
 refine F.ok scIw (fun vs H Q E h=>?_) (fun cdv A outer s H vs Q E hr h=>?_)
 ·obtain ⟨st,a,p,rfl,_⟩:=h
  rfl
 ·obtain ⟨st,a,p,rfl,fo,hA,hpl,k⟩:=h
  have nd:=scIw.nd
  refine ⟨_,pss_cons (ps_if (pt_not (pt_chain op_le op_le pe_int (pe_callB call_len_seq rfl B.len PySem.boot_len (pa_cons (pv 2) pa_nil)) (pe_glob rfl eL rL))) (pss_one (ps_ret pe_bl)) pss_nil)
   (pss_cons (ps_if (pt_not (pt_val (pe_callB (cr_all rfl) rfl B.all (by decide +kernel) (pa_cons (pe_lc rfl nd (pi_list (pv 2)) (blkOk_by (own:=[("cell",3)]) (by show blkC ["width","height","cells","cell","other"] (defScope sIw) _ _=true; decide +kernel))
    (fun _ _ _ _ _=>pg_name (i:=3) nd rfl (Or.inl rfl)) (fun _ _ _ _ _=>pts_nil) (fun _ _ _ _ _=>pe_chain op_le op_lt pe_int (pv 3) (pe_op op_mul (pv 0) (pv 1)))) pa_nil)))) (pss_one (ps_ret pe_bl)) pss_nil)
   (pss_one (ps_ret (pe_callB (cr_all rfl) rfl B.all (by decide +kernel) (pa_cons (pe_lc rfl nd (pi_zip rfl B.zip (pa_cons (pv 2) (pa_cons (pe_slice sl_list (pv 2) (po_some pe_int) po_none) pa_nil)))
    (blkOk_by (own:=[("cell",3),("other",4)]) (by show blkC ["width","height","cells","cell","other"] (defScope sIw) _ _=true; decide +kernel))
    (fun _ _ _ _ _=>pg_tupK (n:=2) K rfl rfl (pgs_cons (pg_name (i:=3) nd rfl (Or.inl rfl)) (pgs_cons (pg_name (i:=4) nd rfl (Or.inl rfl)) pgs_nil))) (fun _ _ _ _ _=>pts_nil)
    (fun _ _ _ _ _=>pe_call G1 hr rfl g1 k1 b1 .nil pass0 (pa_cons (pv 0) (pa_cons (pv 1) (pa_cons (pv 3) (pa_cons (pv 4) pa_nil)))))) pa_nil))))),?_⟩
  have hwh:=fo.wh
  have hw6:=fo.w6
  have hh6:=fo.h6
  have no:(p.length≤12→p.all (Vbexai.isCell st)=true→Vbexai.isWay st.form (Vbexai.nats p)=false)→∀ H':Hp,Same H H'→Q (.bl false) H':=fun h H' S=>by
   have e:Vbexai.wayOk st p=false:=by
    unfold Vbexai.wayOk
    by_cases q1:p.length≤12
    ·rw [decide_eq_true q1,Bool.true_and]
     cases q2:p.all (Vbexai.isCell st) with
     |false=>rfl
     |true=>rw [Bool.true_and]; exact h q1 q2
    ·rw [decide_eq_false q1]; rfl
   have:=k H' S
   rw [e] at this
   exact this
  refine ⟨_,rfl,a,_,rfl,.inl hA,_,_,rfl,rfl,_,rfl,?_⟩
  rw [ivs_len]
  refine ite2 (fun h1=>?_) (fun h1=>?_)
  ·have h1':1≤p.length:=by have:=of_decide_eq_true h1; omega
   refine ⟨_,_,rfl,rfl,_,rfl,?_⟩
   cases h2:decide (((p.length:Nat):Int)≤12) with
   |false=>
    have h2':¬ p.length≤12:=fun z=>absurd (decide_eq_true (show ((p.length:Nat):Int)≤12 by omega)) (by rw [h2]; decide)
    exact iteT (no (fun z=>absurd z h2') H (Same.refl H))
   |true=>
    have h2':p.length≤12:=by have:=of_decide_eq_true h2; omega
    refine iteF ?_
    refine ⟨_,rfl,a,rfl,⟨_,hA⟩,fun D hD=>?_⟩
    refine lc_list (xs:=ivs p) (fun i H'=>Same H H'∧H' D=some (.lst (((p.take i).map (Vbexai.isCell st)).map V.bl))) ⟨(Same.refl H).new hD,upd_same⟩ (fun i H' _ h=>h.1.seq hA) ?_ ?_
    ·rintro i y H1 hi ⟨S1,hd⟩
     obtain ⟨c,hc,rfl⟩:=ivs_get hi
     have hil:=(List.getElem?_eq_some_iff.mp hc).1
     refine ⟨rfl,?_⟩
     unfold tYes
     dsimp only
     rw [if_pos rfl]
     have fin:∀ b:Bool,Vbexai.isCell st c=b→∃ acc,H1 D=some (.lst acc)∧acc.length < sizeLine∧Same H (upd H1 D (.lst (acc ++ [.bl b])))∧(upd H1 D (.lst (acc ++ [.bl b]))) D=some (.lst (((p.take (i + 1)).map (Vbexai.isCell st)).map V.bl)):=fun b hb=>by
      refine ⟨_,hd,(by rw [List.length_map,List.length_map,List.length_take]; exact nsize (by omega)),S1.up hD,?_⟩
      rw [upd_same,take_snoc hc,List.map_append,List.map_append,← hb]; rfl
     have ec:=cell_dec fo c
     refine ⟨_,rfl,_,_,rfl,rfl,_,rfl,ite2 (fun h3=>?_) (fun h3=>?_)⟩
     ·rw [h3,Bool.true_and] at ec
      refine ⟨_,rfl,_,rfl,o1 rfl rfl (.inl ⟨by omega,by omega⟩) (v:=.int ((st.form.w * st.form.h:Nat):Int)) (congrArg V.int (Int.natCast_mul _ _).symm) ?_⟩
      exact ⟨_,_,rfl,rfl,fin _ ec.symm⟩
     ·rw [Bool.eq_false_iff.mpr h3,Bool.false_and] at ec
      exact fin _ ec.symm
    ·rintro H1 ⟨S1,hd⟩
     rw [ivs_len,List.take_length] at hd
     refine ⟨D,_,rfl,SqL.of hd,_,rfl,?_⟩
     have eall:(p.map (Vbexai.isCell st)).all id=p.all (Vbexai.isCell st):=by rw [List.all_map]; rfl
     rw [eall]
     cases h3:p.all (Vbexai.isCell st) with
     |false=>exact iteT (no (fun _ z=>by rw [h3] at z; cases z) H1 S1)
     |true=>
      refine iteF ?_
      have hcells:∀ c ∈ p,0≤c∧c < ((st.form.w * st.form.h:Nat):Int):=fun c hc=>by
       have:=List.all_eq_true.mp h3 c hc
       rw [← cell_dec fo,Bool.and_eq_true] at this
       exact ⟨of_decide_eq_true this.1,of_decide_eq_true this.2⟩
      refine ⟨_,rfl,_,rfl,_,rfl,a,_,rfl,S1.seq hA,fun p2 hp2=>?_⟩
      have ecut:cutV (ivs p) (some 1) none=ivs (p.drop 1):=by
       unfold cutV
       have e1:HT.sIx (ivs p).length 0 (some 1)=1:=sIx_nat _ 0 1 (by rw [ivs_len]; exact h1')
       have e2:HT.sIx (ivs p).length (ivs p).length none=(ivs p).length:=rfl
       rw [e1,e2]
       unfold ivs
       rw [List.length_map,← List.map_drop,List.take_of_length_le (by rw [List.length_map,List.length_drop]; exact Nat.le_refl _)]
      rw [ecut]
      have S2:=S1.new (o:=.lst (ivs (p.drop 1))) hp2
      refine ⟨a,p2,_,_,rfl,S2.seq hA,SqL.of upd_same,fun D2 hD2=>?_⟩
      have n2:p2 ≠ D2:=ne_of_none (o:=.lst (ivs (p.drop 1))) upd_same hD2
      have hnl:(Vbexai.nats p).length=p.length:=by unfold Vbexai.nats; rw [List.length_map]
      have hzl:((Vbexai.nats p).zip ((Vbexai.nats p).drop 1)).length=p.length - 1:=by
       rw [List.length_zip,List.length_drop,hnl]; omega
      refine lc_it (n:=p.length - 1) (fun i H'=>Same H H'∧H' p2=some (.lst (ivs (p.drop 1)))∧H' D2=some (.lst (((((Vbexai.nats p).zip ((Vbexai.nats p).drop 1)).take i).map fun q=>Vbexai.besides st.form q.1 q.2).map V.bl)))
       ⟨S2.new hD2,by rw [upd_ne n2,upd_same],upd_same⟩ ?_ ?_ ?_ ?_
      ·rintro i H3 hi ⟨S3,h31,h32⟩
       exact ⟨ivs p,ivs (p.drop 1),.int p[i],.int p[i + 1],S3.seq hA,SqL.of h31,ivs_at (List.getElem?_eq_getElem (by omega)),ivs_at (by rw [List.getElem?_drop,Nat.add_comm 1 i]; exact List.getElem?_eq_getElem (by omega))⟩
      ·rintro H3 ⟨S3,h31,h32⟩
       exact ⟨ivs p,ivs (p.drop 1),S3.seq hA,SqL.of h31,.inr (by rw [ivs_len,List.length_drop]; exact Nat.le_refl _)⟩
      ·rintro i H3 z H4 hi ⟨S3,h31,h32⟩ ⟨tT,x,y,rfl,nT,rfl,hx,hy⟩
       obtain ⟨c,hc,rfl⟩:=ivs_get (hx _ (S3.seq hA))
       obtain ⟨c',hc',rfl⟩:=ivs_get (hy _ (SqL.of h31))
       have b1:=hcells c (List.mem_of_getElem? hc)
       have b2:=hcells c' (List.mem_of_mem_drop (List.mem_of_getElem? hc'))
       obtain ⟨m,rfl⟩:=Int.eq_ofNat_of_zero_le b1.1
       obtain ⟨m',rfl⟩:=Int.eq_ofNat_of_zero_le b2.1
       have hz:((Vbexai.nats p).zip ((Vbexai.nats p).drop 1))[i]?=some (m,m'):=by
        rw [List.getElem?_zip_eq_some]
        unfold Vbexai.nats
        refine ⟨by rw [List.getElem?_map,hc]; rfl,?_⟩
        rw [← List.map_drop,List.getElem?_map,hc']; rfl
       refine ⟨tT,_,rfl,SqT.of upd_same,rfl,_,_,rfl,_,_,rfl,rfl,rfl,?_⟩
       unfold tYes
       dsimp only
       rw [if_pos rfl]
       have n3:p2 ≠ tT:=ne_of_none h31 nT
       have n4:D2 ≠ tT:=ne_of_none h32 nT
       refine ⟨_,rfl,_,rfl,_,rfl,_,rfl,st.form,m,m',rfl,⟨fo.w1,hw6,hh6,by omega⟩,fun H5 S5=>?_⟩
       refine ⟨_,S5 _ _ (by rw [upd_ne n4]; exact h32),(by rw [List.length_map,List.length_map,List.length_take]; exact nsize (by omega)),((S3.new nT).trans S5).up (S2.free hD2),?_,?_⟩
       ·rw [upd_ne n2]
        exact S5 _ _ (by rw [upd_ne n3]; exact h31)
       ·rw [upd_same,take_snoc hz,List.map_append,List.map_append]; rfl
      ·rintro H3 ⟨S3,h31,h32⟩
       rw [← hzl,List.take_length] at h32
       refine ⟨D2,_,rfl,SqL.of h32,?_⟩
       have:=k H3 S3
       have e:Vbexai.wayOk st p=(((Vbexai.nats p).zip ((Vbexai.nats p).drop 1)).map fun q=>Vbexai.besides st.form q.1 q.2).all id:=by
        unfold Vbexai.wayOk
        rw [decide_eq_true h2',h3,Bool.true_and,Bool.true_and,isWay_zip _ (fun c hc=>?_) (fun z=>?_),List.all_map]
        ·rfl
        ·unfold Vbexai.nats at hc
         obtain ⟨z,hz,rfl⟩:=List.mem_map.mp hc
         have:=hcells z hz
         omega
        ·rw [z] at hnl
         simp at hnl
         omega
       rw [e] at this
       exact this
  ·have h1':p=[]:=by
    cases p with
    |nil=>rfl
    |cons x l=>exact absurd (decide_eq_true (show (1:Int)≤(((x::l).length:Nat):Int) by rw [List.length_cons]; omega)) h1
   subst h1'
   refine ⟨_,rfl,iteT (no (fun _ _=>rfl) H (Same.refl H))⟩
end
end Rp
namespace Rp
open PySem PySem.Spec PyProof.Rows L2
structure Cal (P:Program) (w:World) (K:PySem.W.Frag) (mg:Str→Option Value) (base:Heap) (x:Str) (k:Nat) (ps:List Str) (sp:Sp) (f:Addr) (fd:FuncData):Prop where
 G:FnOk P w K mg base CX0 k f fd ps sp
 kp:PySem.W.keepIn K (.ref f)=true
 b:Binds K fd ps []
 g:mg x=some (.ref f)
structure Mth (P:Program) (w:World) (K:PySem.W.Frag) (mg:Str→Option Value) (base:Heap) (C:Addr) (x:Str) (k:Nat) (ps:List Str) (sp:Sp) (f:Addr) (fd:FuncData):Prop where
 G:FnOk P w K mg base CX0 k f fd ps sp
 m:Meth K C x f
 b:Binds K fd ps []
def wth (los ns his:List Int):Bool:=(los.zip (ns.zip his)).all fun t=>decide (t.1≤t.2.1) && decide (t.2.1≤t.2.2)
theorem SqV.same {K:PySem.W.Frag} {b:Bool} {H H':Hp} {a:Addr} {xs:List V} (S:Same H H') (h:SqV b K H a xs):SqV b K H' a xs:=by
 cases b with
 |false=>exact S.seq (show SqL K H a xs from h)
 |true=>
  rcases (show SqT K H a xs from h) with (h | ⟨o,h⟩) | h
  ·exact (show SqT K H' a xs from .inl (.inl (S _ _ h)))
  ·exact (show SqT K H' a xs from .inl (.inr ⟨o,S _ _ h⟩))
  ·exact (show SqT K H' a xs from .inr h)
section
variable {P:Program} {w:World} {K:PySem.W.Frag} {mg:Str→Option Value} {base:Heap}
abbrev sWi:Stmt:=top 50
def spWi (K:PySem.W.Frag):Sp:=fun vs H Q _=>∃ (b:Bool) (l n h:Addr) (los ns his:List Int),vs=[.ref l,.ref n,.ref h]∧SqV b K H l (ivs los)∧SqL K H n (ivs ns)∧SqT K H h (ivs his)∧los.length=ns.length∧his.length=ns.length∧ns.length≤100∧
 ∀ H':Hp,Same H H'→Q (.bl (wth los ns his)) H'
theorem scWi:FnScope ["lows","numbers","highs","low","number","high"] ["lows","numbers","highs"] (defScope sWi):=⟨rfl,rfl,rfl,by decide +kernel,rfl,by decide +kernel,by decide +kernel⟩
theorem ok_wi {f:Addr} {fd:FuncData} (F:Fun K "within" "within" sWi f fd) (B:Blt mg):FnOk P w K mg base CX0 1 f fd ["lows","numbers","highs"] (spWi K):=by
 refine F.ok scWi (fun vs H Q E h=>?_) (fun cdv A outer s H vs Q E hr h=>?_)
 ·obtain ⟨b,l,n,h,los,ns,his,rfl,_⟩:=h
  rfl
 ·obtain ⟨b,l,n,h,los,ns,his,rfl,hL,hN,hH,e1,e2,hlen,k⟩:=h
  have nd:=scWi.nd
  refine ⟨_,pss_one (ps_ret (pe_callB (cr_all rfl) rfl B.all (by decide +kernel) (pa_cons (pe_lc rfl nd (pi_zip3 b rfl B.zip (pa_cons (pv 0) (pa_cons (pv 1) (pa_cons (pv 2) pa_nil))))
   (blkOk_by (own:=[("low",3),("number",4),("high",5)]) (by show blkC ["lows","numbers","highs","low","number","high"] (defScope sWi) _ _=true; decide +kernel))
   (fun _ _ _ _ _=>pg_tupK (n:=3) K rfl rfl (pgs_cons (pg_name (i:=3) nd rfl (Or.inl rfl)) (pgs_cons (pg_name (i:=4) nd rfl (Or.inl rfl)) (pgs_cons (pg_name (i:=5) nd rfl (Or.inl rfl)) pgs_nil)))) (fun _ _ _ _ _=>pts_nil)
   (fun _ _ _ _ _=>pe_chain op_le op_le (pv 3) (pv 4) (pv 5))) pa_nil))),?_⟩
  refine ⟨_,rfl,_,rfl,_,rfl,l,n,h,_,_,_,rfl,hL,hN,hH,fun D hD=>?_⟩
  generalize ezs:los.zip (ns.zip his)=zs
  have hzl:zs.length=ns.length:=by rw [← ezs,List.length_zip,List.length_zip]; omega
  refine lc_it (n:=ns.length) (fun i H'=>Same H H'∧H' D=some (.lst (((zs.take i).map fun t=>decide (t.1≤t.2.1) && decide (t.2.1≤t.2.2)).map V.bl))) ⟨(Same.refl H).new hD,upd_same⟩ ?_ ?_ ?_ ?_
  ·rintro i H1 hi ⟨S1,hd⟩
   exact ⟨_,_,_,.int los[i],.int ns[i],.int his[i],SqV.same S1 hL,S1.seq hN,SqV.same (b:=true) S1 hH,ivs_at (List.getElem?_eq_getElem (by omega)),ivs_at (List.getElem?_eq_getElem hi),ivs_at (List.getElem?_eq_getElem (by omega))⟩
  ·rintro H1 ⟨S1,hd⟩
   exact ⟨_,SqV.same S1 hL,by rw [ivs_len,e1]; exact Nat.le_refl _⟩
  ·rintro i H1 v H2 hi ⟨S1,hd⟩ ⟨tT,x,y,z,rfl,nT,rfl,hx,hy,hz⟩
   obtain ⟨x,hx',rfl⟩:=ivs_get (hx _ (SqV.same S1 hL))
   obtain ⟨y,hy',rfl⟩:=ivs_get (hy _ (S1.seq hN))
   obtain ⟨z,hz',rfl⟩:=ivs_get (hz _ (SqV.same (b:=true) S1 hH))
   have ht:zs[i]?=some (x,y,z):=by
    rw [← ezs,List.getElem?_zip_eq_some]
    exact ⟨hx',by rw [List.getElem?_zip_eq_some]; exact ⟨hy',hz'⟩⟩
   refine ⟨tT,_,rfl,SqT.of upd_same,rfl,_,_,rfl,_,_,rfl,_,_,rfl,rfl,rfl,?_⟩
   unfold tYes
   dsimp only
   rw [if_pos rfl]
   have nTD:D ≠ tT:=ne_of_none hd nT
   have fin:∀ b:Bool,(decide (x≤y) && decide (y≤z))=b→∃ acc,(upd H1 tT (.tup [.int x,.int y,.int z])) D=some (.lst acc)∧acc.length < sizeLine∧Same H (upd (upd H1 tT (.tup [.int x,.int y,.int z])) D (.lst (acc ++ [.bl b])))∧(upd (upd H1 tT (.tup [.int x,.int y,.int z])) D (.lst (acc ++ [.bl b]))) D=some (.lst (((zs.take (i + 1)).map fun t=>decide (t.1≤t.2.1) && decide (t.2.1≤t.2.2)).map V.bl)):=fun b hb=>by
    refine ⟨_,(by rw [upd_ne nTD]; exact hd),(by rw [List.length_map,List.length_map,List.length_take]; exact nsize (by omega)),(S1.new nT).up hD,?_⟩
    rw [upd_same,take_snoc ht,List.map_append,List.map_append,← hb]; rfl
   refine ⟨_,rfl,_,rfl,_,_,rfl,rfl,_,rfl,ite2 (fun h1=>?_) (fun h1=>?_)⟩
   ·exact ⟨_,rfl,_,_,rfl,rfl,fin _ (by rw [h1,Bool.true_and])⟩
   ·exact fin _ (by rw [Bool.eq_false_iff.mpr h1,Bool.false_and])
  ·rintro H1 ⟨S1,hd⟩
   rw [← hzl,List.take_length] at hd
   refine ⟨D,_,rfl,SqL.of hd,?_⟩
   have:=k H1 S1
   unfold wth at this
   rw [ezs] at this
   rw [List.all_map]
   exact this
abbrev sIf:Stmt:=top 51
def fieldOk (w h a b m:Int):Bool:=Vbexai.within w 1 6 && (Vbexai.within h 1 6 && (Vbexai.within a 1 4 && (Vbexai.within b a 4 && Vbexai.within m 0 2)))
def spIf (K:PySem.W.Frag):Sp:=fun vs H Q _=>∃ (n:Addr) (w h a b m:Int),vs=[.ref n]∧SqL K H n (ivs [w,h,a,b,m])∧∀ H':Hp,Same H H'→Q (.bl (fieldOk w h a b m)) H'
theorem scIf:FnScope ["numbers"] ["numbers"] (defScope sIf):=⟨rfl,rfl,rfl,by decide +kernel,rfl,by decide +kernel,by decide +kernel⟩
theorem wth_field (w h a b m:Int):wth [1,1,1,a,0] [w,h,a,b,m] [6,6,4,4,2]=fieldOk w h a b m:=by
 unfold wth fieldOk Vbexai.within
 simp only [List.zip_cons_cons,List.zip_nil_right,List.all_cons,List.all_nil,Bool.and_true]
theorem ok_if {f f1:Addr} {fd fd1:FuncData} (F:Fun K "is_field" "is_field" sIf f fd) (c1:Cal P w K mg base "within" 1 ["lows","numbers","highs"] (spWi K) f1 fd1):FnOk P w K mg base CX0 2 f fd ["numbers"] (spIf K):=by
 refine F.ok scIf (fun vs H Q E h=>?_) (fun cdv A outer s H vs Q E hr h=>?_)
 ·obtain ⟨n,w,h,a,b,m,rfl,_⟩:=h
  rfl
 ·obtain ⟨n,ww,hh,a,b,m,rfl,hN,k⟩:=h
  refine ⟨_,pss_one (ps_ret (pe_call c1.G hr rfl c1.g c1.kp c1.b .nil pass0 (pa_cons (pe_tup (pa_cons pe_int (pa_cons pe_int (pa_cons pe_int (pa_cons (pe_ix ix_list (pv 0) pe_int (fun _ _=>rfl)) (pa_cons pe_int pa_nil))))))
   (pa_cons (pv 0) (pa_cons (pe_tup (pa_cons pe_int (pa_cons pe_int (pa_cons pe_int (pa_cons pe_int (pa_cons pe_int pa_nil)))))) pa_nil))))),?_⟩
  refine ⟨_,rfl,n,_,_,_,rfl,rfl,hN,rfl,(by show 5≤sizeLine; decide),fun t1 ht1=>⟨_,rfl,(by show 5≤sizeLine; decide),fun t2 ht2=>?_⟩⟩
  have S1:Same H (upd H t1 (.tup [.int 1,.int 1,.int 1,.int a,.int 0])):=(Same.refl H).new ht1
  have S2:=S1.new (o:=.tup [.int 6,.int 6,.int 4,.int 4,.int 2]) ht2
  have n12:t1 ≠ t2:=ne_of_none (o:=.tup [.int 1,.int 1,.int 1,.int a,.int 0]) upd_same ht2
  refine ⟨true,t1,n,t2,[1,1,1,a,0],[ww,hh,a,b,m],[6,6,4,4,2],rfl,(show SqT _ _ _ _ from SqT.of (by rw [upd_ne n12,upd_same]; rfl)),S2.seq hN,SqT.of upd_same,rfl,rfl,(by show 5≤100; decide),fun H' S'=>?_⟩
  rw [wth_field]
  exact k H' (S2.trans S')
end
end Rp
namespace Rp
open PySem PySem.Spec PyProof.Rows L2
theorem SameX.keep {g C dx:Addr} {fs:List (Str × V)} {o':HO} {H H':Hp} (S:SameX g H H') (hg:H g=some (.ins C dx fs)) (hg':H' g=some o'):Keep H H':=⟨fun b o e n1 _=>S b o e fun z=>by rw [z,hg] at e; cases e; exact n1 _ _ _ rfl,fun b o e=>by
 by_cases h:b=g
 ·exact ⟨o',by rw [h]; exact hg'⟩
 ·exact ⟨o,S b o e h⟩⟩
def AnsK (C:Addr) (H:Hp) (g:Addr) (r:Vbexai.St × List Int) (Q:VK):Prop:=∀ (H':Hp) (p:Addr),Keep H H'→H p=none→GlAt C H' g r.1→H' p=some (.lst (ivs r.2))→r.2.length≤100→Q (.ref p) H'
theorem AnsK.same {C:Addr} {H H1:Hp} {g:Addr} {r:Vbexai.St × List Int} {Q:VK} (k:AnsK C H g r Q) (S:Same H H1):AnsK C H1 g r Q:=fun H' p kp hp hG he hl=>k H' p (S.keep.trans kp) (S.free hp) hG he hl
theorem AnsK.one {C:Addr} {H:Hp} {g:Addr} {st:Vbexai.St} {z:Int} {Q:VK} (k:AnsK C H g (st,[z]) Q) (hG:GlAt C H g st):1≤sizeLine∧∀ l,H l=none→Q (.ref l) (upd H l (.lst [.int z])):=
 ⟨by decide,fun l hl=>k _ l ((Same.refl H).new hl).keep hl (hG.same ((Same.refl H).new hl)) upd_same (by show 1≤100; decide)⟩
def spAns (K:PySem.W.Frag) (C:Addr) (op:Int):Sp:=fun vs H Q _=>∃ (g nl:Addr) (st:Vbexai.St) (ns:List Int) (c:Vbexai.Call),vs=[.ref g,.ref nl]∧GlAt C H g st∧SqL K H nl (ivs ns)∧Vbexai.decode [op::ns]=some c∧AnsK C H g (Vbexai.step st c) Q
theorem dec0 {ns:List Int} {c:Vbexai.Call} (h:Vbexai.decode [0::ns]=some c):∃ a b d e f,ns=[a,b,d,e,f]∧c=.field a b d e f:=by
 rcases ns with _ | ⟨a,_ | ⟨b,_ | ⟨d,_ | ⟨e,_ | ⟨f,_ | ⟨x,l⟩⟩⟩⟩⟩⟩
 all_goals first
  |(cases h; exact ⟨_,_,_,_,_,rfl,rfl⟩)
  |(cases h; done)
theorem dec1 {ns:List Int} {c:Vbexai.Call} (h:Vbexai.decode [1::ns]=some c):∃ a b,ns=[a,b]∧c=.found a b:=by
 rcases ns with _ | ⟨a,_ | ⟨b,_ | ⟨x,l⟩⟩⟩
 all_goals first
  |(cases h; exact ⟨_,_,rfl,rfl⟩)
  |(cases h; done)
theorem dec2 {ns:List Int} {c:Vbexai.Call} (h:Vbexai.decode [2::ns]=some c):∃ a,ns=[a]∧c=.undo a:=by
 rcases ns with _ | ⟨a,_ | ⟨x,l⟩⟩
 all_goals first
  |(cases h; exact ⟨_,rfl,rfl⟩)
  |(cases h; done)
theorem refused {st:Vbexai.St} {c:Vbexai.Call} (h:Vbexai.ranged st c=false):Vbexai.step st c=(st,[-1]):=by unfold Vbexai.step; rw [if_pos h]
theorem acted {st:Vbexai.St} {c:Vbexai.Call} (h:Vbexai.ranged st c=true):Vbexai.step st c=Vbexai.act st c:=by unfold Vbexai.step; rw [if_neg (by rw [h]; decide)]
theorem within_iff {n lo hi:Int}:Vbexai.within n lo hi=true↔lo≤n∧n≤hi:=by
 unfold Vbexai.within
 rw [Bool.and_eq_true,decide_eq_true_iff,decide_eq_true_iff]
theorem isCell_nat {st:Vbexai.St} (fo:FormOk st.form) {c:Int} (h:Vbexai.isCell st c=true):∃ n:Nat,c=(n:Int)∧n < st.form.w * st.form.h:=by
 have:=within_iff.mp h
 have:=fo.wh1
 exact ⟨c.toNat,by omega,by omega⟩
section
variable {P:Program} {w:World} {K:PySem.W.Frag} {mg:Str→Option Value} {base:Heap}
abbrev sA0:Stmt:=top 52
theorem scA0:FnScope ["glacier","numbers"] ["glacier","numbers"] (defScope sA0):=⟨rfl,rfl,rfl,by decide +kernel,rfl,by decide +kernel,by decide +kernel⟩
theorem ok_a0 {f f1 f2 C:Addr} {fd fd1 fd2:FuncData} (F:Fun K "answer_field" "answer_field" sA0 f fd) (T:TxG K C) (B:Blt mg) (cO:Num mg "OUT_OF_RANGE" (-1))
  (c1:Cal P w K mg base "is_field" 2 ["numbers"] (spIf K) f1 fd1) (m2:Mth P w K mg base C "lay" 4 ["self","width","height","least","most","many"] (spLay C) f2 fd2):FnOk P w K mg base CX0 5 f fd ["glacier","numbers"] (spAns K C 0):=by
 obtain ⟨uO,eO,rO⟩:=cO
 refine F.ok scA0 (fun vs H Q E h=>?_) (fun cdv A outer s H vs Q E hr h=>?_)
 ·obtain ⟨g,nl,st,ns,c,rfl,_⟩:=h
  rfl
 ·obtain ⟨g,nl,st,ns,c,rfl,hG,hN,hdec,k⟩:=h
  obtain ⟨w',h',a,b,m,rfl,rfl⟩:=dec0 hdec
  have hr2:Room 2 _:=hr.mono (by decide)
  refine ⟨_,pss_cons (ps_if (pt_not (pt_val (pe_call c1.G hr2 rfl c1.g c1.kp c1.b .nil pass0 (pa_cons (pv 1) pa_nil)))) (pss_one (ps_ret (pe_lst (pa_cons (pe_glob rfl eO rO) pa_nil)))) pss_nil)
   (pss_cons (ps_expr (pe_meth (pv 0) T.cl m2.m m2.G hr m2.b .nil pass0 (pa_cons (pe_ix ix_list (pv 1) pe_int (fun _ _=>rfl)) (pa_cons (pe_ix ix_list (pv 1) pe_int (fun _ _=>rfl)) (pa_cons (pe_ix ix_list (pv 1) pe_int (fun _ _=>rfl)) (pa_cons (pe_ix ix_list (pv 1) pe_int (fun _ _=>rfl)) (pa_cons (pe_ix ix_list (pv 1) pe_int (fun _ _=>rfl)) pa_nil)))))))
   (pss_one (ps_ret (pe_lst (pa_cons (pe_callB call_len_seq rfl B.len PySem.boot_len (pa_cons (pe_fld (pv 0) rfl) pa_nil)) pa_nil))))),?_⟩
  refine ⟨_,rfl,nl,w',h',a,b,m,rfl,hN,fun H1 S1=>⟨_,rfl,?_⟩⟩
  have er:Vbexai.ranged st (.field w' h' a b m)=fieldOk w' h' a b m:=rfl
  have hG1:=hG.same S1
  cases e:fieldOk w' h' a b m with
  |false=>
   rw [refused (er.trans e)] at k
   exact iteT ((k.same S1).one hG1)
  |true=>
   rw [acted (er.trans e)] at k
   refine iteF ?_
   unfold fieldOk at e
   rw [Bool.and_eq_true,Bool.and_eq_true,Bool.and_eq_true,Bool.and_eq_true,within_iff,within_iff,within_iff,within_iff,within_iff] at e
   obtain ⟨q1,q2,q3,q4,q5⟩:=e
   obtain ⟨dx,hl,pl,d,cn,hA⟩:=hG1
   have N1:=S1.seq hN
   have fok:FormOk ⟨w'.toNat,h'.toNat,a.toNat,b.toNat,m.toNat⟩:=⟨by show 1≤w'.toNat; omega,by show w'.toNat≤6; omega,by show 1≤h'.toNat; omega,by show h'.toNat≤6; omega,by show 1≤a.toNat; omega,by show a.toNat≤b.toNat; omega,by show b.toNat≤4; omega,by show m.toNat≤2; omega⟩
   refine ⟨_,rfl,g,dx,_,rfl,hA.at_,rfl,_,rfl,nl,_,_,_,rfl,rfl,N1,rfl,_,rfl,nl,_,_,_,rfl,rfl,N1,rfl,_,rfl,nl,_,_,_,rfl,rfl,N1,rfl,_,rfl,nl,_,_,_,rfl,rfl,N1,rfl,_,rfl,nl,_,_,_,rfl,rfl,N1,rfl,?_⟩
   refine ⟨g,dx,_,⟨w'.toNat,h'.toNat,a.toNat,b.toNat,m.toNat⟩,?_,fok,hA.at_,layOk_glf _ _ _ _ _,fun H2 hl2 d2 X2 hA2=>?_⟩
   ·show [V.ref g,V.int w',V.int h',V.int a,V.int b,V.int m]=[V.ref g,V.int ((w'.toNat:Nat):Int),V.int ((h'.toNat:Nat):Int),V.int ((a.toNat:Nat):Int),V.int ((b.toNat:Nat):Int),V.int ((m.toNat:Nat):Int)]
    rw [Int.toNat_of_nonneg (by omega),Int.toNat_of_nonneg (by omega),Int.toNat_of_nonneg (by omega),Int.toNat_of_nonneg (by omega),Int.toNat_of_nonneg (by omega)]
   ·refine ⟨_,rfl,g,C,dx,_,_,rfl,hA2.at_,T.cl,T.nP,rfl,hl2,_,rfl,.inl (SqL.of hA2.pos),(by show 1≤sizeLine; decide),fun l hl'=>?_⟩
    have S3:Same H2 (upd H2 l (.lst [.int ((ofs (Vbexai.made ⟨w'.toNat,h'.toNat,a.toNat,b.toNat,m.toNat⟩ []).left).length:Nat)])):=(Same.refl H2).new hl'
    have K2:=S1.keep.trans (X2.keep hA.at_ hA2.at_)
    refine k _ l (K2.trans S3.keep) (K2.free hl') ⟨dx,hl2,hl2,d2,.non,hA2.same S3⟩ ?_ (by show 1≤100; decide)
    rw [upd_same,ofs_len]
    rfl
abbrev sIfd:Stmt:=top 53
def spIfd (K:PySem.W.Frag) (C:Addr):Sp:=fun vs H Q _=>∃ (g nl:Addr) (st:Vbexai.St) (c v:Int),vs=[.ref g,.ref nl]∧GlAt C H g st∧SqL K H nl (ivs [c,v])∧Q (.bl (Vbexai.isCell st c && Vbexai.within v 0 1)) H
theorem scIfd:FnScope ["glacier","numbers"] ["glacier","numbers"] (defScope sIfd):=⟨rfl,rfl,rfl,by decide +kernel,rfl,by decide +kernel,by decide +kernel⟩
theorem ok_ifd {f f1 C:Addr} {fd fd1:FuncData} (F:Fun K "is_find" "is_find" sIfd f fd) (T:TxG K C) (m1:Mth P w K mg base C "has_cell" 2 ["self","cell"] (spHas C) f1 fd1):FnOk P w K mg base CX0 3 f fd ["glacier","numbers"] (spIfd K C):=by
 refine F.ok scIfd (fun vs H Q E h=>?_) (fun cdv A outer s H vs Q E hr h=>?_)
 ·obtain ⟨g,nl,st,c,v,rfl,_⟩:=h
  rfl
 ·obtain ⟨g,nl,st,c,v,rfl,⟨dx,hl,pl,d,cn,hA⟩,hN,k⟩:=h
  refine ⟨_,pss_one (ps_ret (pe_and (pe_meth (pv 0) T.cl m1.m m1.G hr m1.b .nil pass0 (pa_cons (pe_ix ix_list (pv 1) pe_int (fun _ _=>rfl)) pa_nil)) (pe_one (pe_chain op_le op_le pe_int (pe_ix ix_list (pv 1) pe_int (fun _ _=>rfl)) pe_int)))),?_⟩
  refine ⟨_,rfl,g,dx,_,rfl,hA.at_,rfl,_,rfl,nl,_,_,_,rfl,rfl,hN,rfl,g,dx,hl,pl,d,cn,st,c,rfl,hA.at_,hA.ok.fo,_,rfl,?_⟩
  cases e:Vbexai.isCell st c with
  |false=>
   rw [e,Bool.false_and] at k
   exact iteF k
  |true=>
   rw [e,Bool.true_and] at k
   unfold Vbexai.within at k
   refine iteT ⟨_,rfl,nl,_,_,_,rfl,rfl,hN,rfl,_,_,rfl,rfl,_,rfl,ite2 (fun h1=>?_) (fun h1=>?_)⟩
   ·have h1':decide (0≤v)=true:=h1
    rw [h1',Bool.true_and] at k
    exact ⟨_,_,rfl,rfl,k⟩
   ·have h1':decide (0≤v)=false:=Bool.eq_false_iff.mpr h1
    rw [h1',Bool.false_and] at k
    exact k
abbrev sA1:Stmt:=top 54
theorem scA1:FnScope ["glacier","numbers","cell","value"] ["glacier","numbers"] (defScope sA1):=⟨rfl,rfl,rfl,by decide +kernel,rfl,by decide +kernel,by decide +kernel⟩
theorem ok_a1 {f f1 f2 f3 C:Addr} {fd fd1 fd2 fd3:FuncData} (F:Fun K "answer_found" "answer_found" sA1 f fd) (T:TxG K C) (B:Blt mg) (cO:Num mg "OUT_OF_RANGE" (-1)) (cF:Num mg "FOUND_ALREADY" (-5)) (cN:Num mg "NONE_AGREES" (-6))
  (c1:Cal P w K mg base "is_find" 3 ["glacier","numbers"] (spIfd K C) f1 fd1) (c2:Cal P w K mg base "agreeing" 1 ["numbers","cell","value"] (spAgr K) f2 fd2) (m3:Mth P w K mg base C "add_find" 2 ["self","cell","value"] (spAf C) f3 fd3) :
  FnOk P w K mg base CX0 4 f fd ["glacier","numbers"] (spAns K C 1):=by
 obtain ⟨uO,eO,rO⟩:=cO
 obtain ⟨uF,eF,rF⟩:=cF
 obtain ⟨uN,eN,rN⟩:=cN
 refine F.ok scA1 (fun vs H Q E h=>?_) (fun cdv A outer s H vs Q E hr h=>?_)
 ·obtain ⟨g,nl,st,ns,c,rfl,_⟩:=h
  rfl
 ·obtain ⟨g,nl,st,ns,c,rfl,hG,hN,hdec,k⟩:=h
  obtain ⟨c,v,rfl,rfl⟩:=dec1 hdec
  have nd:=scA1.nd
  have hu:=hu_of hr
  have hr1:Room 1 _:=hr.mono (by decide)
  have hr2:Room 2 _:=hr.mono (by decide)
  refine ⟨_,pss_cons (ps_if (pt_not (pt_val (pe_call c1.G hr rfl c1.g c1.kp c1.b .nil pass0 (pa_cons (pv 0) (pa_cons (pv 1) pa_nil))))) (pss_one (ps_ret (pe_lst (pa_cons (pe_glob rfl eO rO) pa_nil)))) pss_nil)
   (pss_cons (ps_set (i:=2) nd rfl (Or.inl rfl) (pe_ix ix_list (pv 1) pe_int (fun _ _=>rfl)))
   (pss_cons (ps_set (i:=3) nd rfl (Or.inl rfl) (pe_ix ix_list (pv 1) pe_int (fun _ _=>rfl)))
   (pss_cons (ps_if (pt_cmp (pc_din hu (pv 2) (pe_fld (pv 0) rfl))) (pss_one (ps_ret (pe_lst (pa_cons (pe_glob rfl eF rF) pa_nil)))) pss_nil)
   (pss_cons (ps_if (pt_cmpR op_eq (pe_callB call_len_seq rfl B.len PySem.boot_len (pa_cons (pe_call c2.G hr1 rfl c2.g c2.kp c2.b .nil pass0 (pa_cons (pe_fld (pv 0) rfl) (pa_cons (pv 2) (pa_cons (pv 3) pa_nil)))) pa_nil)) pe_int (nomark _)) (pss_one (ps_ret (pe_lst (pa_cons (pe_glob rfl eN rN) pa_nil)))) pss_nil)
   (pss_cons (ps_expr (pe_meth (pv 0) T.cl m3.m m3.G hr2 m3.b .nil pass0 (pa_cons (pv 2) (pa_cons (pv 3) pa_nil))))
   (pss_one (ps_ret (pe_lst (pa_cons (pe_callB call_len_seq rfl B.len PySem.boot_len (pa_cons (pe_fld (pv 0) rfl) pa_nil)) pa_nil))))))))),?_⟩
  refine ⟨_,rfl,_,rfl,g,nl,st,c,v,rfl,hG,hN,_,rfl,?_⟩
  have er:Vbexai.ranged st (.found c v)=(Vbexai.isCell st c && Vbexai.within v 0 1):=rfl
  cases e:(Vbexai.isCell st c && Vbexai.within v 0 1) with
  |false=>
   rw [refused (er.trans e)] at k
   exact iteT (k.one hG)
  |true=>
   rw [acted (er.trans e)] at k
   rw [Bool.and_eq_true] at e
   refine iteF ?_
   obtain ⟨dx,hl,pl,d,cn,hA⟩:=id hG
   obtain ⟨n,rfl,hn⟩:=isCell_nat hA.ok.fo e.1
   obtain ⟨b,rfl⟩:∃ b:Bool,v=Vbexai.bit b:=by
    have:=within_iff.mp e.2
    by_cases z:v=1
    ·exact ⟨true,z⟩
    ·exact ⟨false,by show v=0; omega⟩
   have eb:(Vbexai.bit b == 1)=b:=by cases b <;> rfl
   refine ⟨_,rfl,nl,_,_,_,rfl,rfl,hN,rfl,?_⟩
   refine ⟨_,rfl,nl,_,_,_,rfl,rfl,hN,rfl,?_⟩
   refine ⟨_,rfl,_,rfl,g,C,dx,_,_,rfl,hA.at_,T.cl,T.nF,rfl,d,_,rfl,DGet.k (k:=Sum.inl (n:Int)) hA.fin,_,rfl,?_⟩
   rw [fnd_val]
   have eact:Vbexai.act st (.found (n:Int) (Vbexai.bit b))=if (st.finds.any fun p=>p.1 == n)=true then (st,[-5]) else if (st.left.filter fun x=>Vbexai.hole x n == b).isEmpty=true then (st,[-6]) else ({ st with finds:=st.finds ++ [(n,b)],left:=st.left.filter fun x=>Vbexai.hole x n == b },[((st.left.filter fun x=>Vbexai.hole x n == b).length:Int)]):=by
    show (if (st.finds.any fun p=>p.1 == (n:Int).toNat)=true then (st,[-5]) else if (st.left.filter fun x=>Vbexai.hole x (n:Int).toNat == (Vbexai.bit b == 1)).isEmpty=true then (st,[-6]) else ({ st with finds:=st.finds ++ [((n:Int).toNat,Vbexai.bit b == 1)],left:=st.left.filter fun x=>Vbexai.hole x (n:Int).toNat == (Vbexai.bit b == 1) },[((st.left.filter fun x=>Vbexai.hole x (n:Int).toNat == (Vbexai.bit b == 1)).length:Int)]))=_
    rw [eb,Int.toNat_natCast]
   rw [eact,any_find_iff] at k
   cases hf:decide (n ∈ st.finds.map (·.1)) with
   |true=>
    rw [hf,if_pos rfl] at k
    exact iteT (k.one hG)
   |false=>
    rw [hf,if_neg (by decide)] at k
    refine iteF ?_
    have hn':n ∉ st.finds.map (·.1):=of_decide_eq_false hf
    refine ⟨_,rfl,g,C,dx,_,_,rfl,hA.at_,T.cl,T.nP,rfl,_,rfl,_,rfl,pl,st.left,n,b,rfl,SqL.of hA.pos,hA.ok.left_len,fun H1 p S1 np hp=>?_⟩
    refine ⟨p,_,rfl,.inl (SqL.of hp),rfl,_,rfl,?_⟩
    rw [ofs_len]
    generalize el:st.left.filter (fun x=>Vbexai.hole x n == b)=l at k hp
    have hA1:=hA.same S1
    cases l with
    |nil=>
     rw [if_pos (by rfl)] at k
     exact iteT ((k.same S1).one ⟨dx,hl,pl,d,cn,hA1⟩)
    |cons x l'=>
     rw [if_neg (by simp)] at k
     have hz:decide (V.int (((x::l').length:Nat):Int)=V.int 0)=false:=by rw [Rp.dec_int]; exact decide_eq_false (by rw [List.length_cons]; omega)
     rw [hz]
     refine iteF ?_
     refine ⟨_,rfl,g,dx,_,rfl,hA1.at_,rfl,_,rfl,_,rfl,g,dx,hl,pl,d,cn,st,n,b,rfl,hA1,hn,hn',(by rw [el]; simp),fun H2 pl' K2 hA2=>?_⟩
     rw [el] at hA2
     refine ⟨_,rfl,g,C,dx,_,_,rfl,hA2.at_,T.cl,T.nP,rfl,pl',_,rfl,.inl (SqL.of hA2.pos),(by show 1≤sizeLine; decide),fun q hq=>?_⟩
     have S3:Same H2 (upd H2 q (.lst [.int ((ofs (x::l')).length:Nat)])):=(Same.refl H2).new hq
     have K12:=S1.keep.trans K2
     refine k _ q (K12.trans S3.keep) (K12.free hq) ⟨dx,hl,pl',d,.non,hA2.same S3⟩ ?_ (by show 1≤100; decide)
     rw [upd_same,ofs_len]
     rfl
abbrev sA2:Stmt:=top 55
theorem scA2:FnScope ["glacier","numbers","cell"] ["glacier","numbers"] (defScope sA2):=⟨rfl,rfl,rfl,by decide +kernel,rfl,by decide +kernel,by decide +kernel⟩
theorem ok_a2 {f f1 f2 C:Addr} {fd fd1 fd2:FuncData} (F:Fun K "answer_undo" "answer_undo" sA2 f fd) (T:TxG K C) (B:Blt mg) (cO:Num mg "OUT_OF_RANGE" (-1)) (cN:Num mg "NOT_THERE" (-4))
  (m1:Mth P w K mg base C "has_cell" 2 ["self","cell"] (spHas C) f1 fd1) (m2:Mth P w K mg base C "drop_find" 2 ["self","cell"] (spDf C) f2 fd2) :
  FnOk P w K mg base CX0 3 f fd ["glacier","numbers"] (spAns K C 2):=by
 obtain ⟨uO,eO,rO⟩:=cO
 obtain ⟨uN,eN,rN⟩:=cN
 refine F.ok scA2 (fun vs H Q E h=>?_) (fun cdv A outer s H vs Q E hr h=>?_)
 ·obtain ⟨g,nl,st,ns,c,rfl,_⟩:=h
  rfl
 ·obtain ⟨g,nl,st,ns,c,rfl,hG,hN,hdec,k⟩:=h
  obtain ⟨c,rfl,rfl⟩:=dec2 hdec
  have nd:=scA2.nd
  have hu:=hu_of hr
  refine ⟨_,pss_cons (ps_set (i:=2) nd rfl (Or.inl rfl) (pe_ix ix_list (pv 1) pe_int (fun _ _=>rfl)))
   (pss_cons (ps_if (pt_not (pt_val (pe_meth (pv 0) T.cl m1.m m1.G hr m1.b .nil pass0 (pa_cons (pv 2) pa_nil)))) (pss_one (ps_ret (pe_lst (pa_cons (pe_glob rfl eO rO) pa_nil)))) pss_nil)
   (pss_cons (ps_if (pt_cmp (pc_dnotin hu (pv 2) (pe_fld (pv 0) rfl))) (pss_one (ps_ret (pe_lst (pa_cons (pe_glob rfl eN rN) pa_nil)))) pss_nil)
   (pss_cons (ps_expr (pe_meth (pv 0) T.cl m2.m m2.G hr m2.b .nil pass0 (pa_cons (pv 2) pa_nil)))
   (pss_one (ps_ret (pe_lst (pa_cons (pe_callB call_len_seq rfl B.len PySem.boot_len (pa_cons (pe_fld (pv 0) rfl) pa_nil)) pa_nil))))))),?_⟩
  obtain ⟨dx,hl,pl,d,cn,hA⟩:=id hG
  refine ⟨_,rfl,nl,_,_,_,rfl,rfl,hN,rfl,?_⟩
  refine ⟨_,rfl,g,dx,_,rfl,hA.at_,rfl,_,rfl,g,dx,hl,pl,d,cn,st,c,rfl,hA.at_,hA.ok.fo,_,rfl,?_⟩
  have er:Vbexai.ranged st (.undo c)=Vbexai.isCell st c:=rfl
  cases e:Vbexai.isCell st c with
  |false=>
   rw [refused (er.trans e)] at k
   exact iteT (k.one hG)
  |true=>
   rw [acted (er.trans e)] at k
   refine iteF ?_
   obtain ⟨n,rfl,hn⟩:=isCell_nat hA.ok.fo e
   refine ⟨_,rfl,_,rfl,g,C,dx,_,_,rfl,hA.at_,T.cl,T.nF,rfl,d,_,rfl,DGet.k (k:=Sum.inl (n:Int)) hA.fin,_,rfl,?_⟩
   rw [fnd_val]
   have eact:Vbexai.act st (.undo (n:Int))=if (st.finds.any fun p=>p.1 == n)=false then (st,[-4]) else (Vbexai.made st.form (st.finds.filter fun p=>p.1 != n),[((Vbexai.made st.form (st.finds.filter fun p=>p.1 != n)).left.length:Int)]):=by
    show (if (st.finds.any fun p=>p.1 == (n:Int).toNat)=false then (st,[-4]) else (Vbexai.made st.form (st.finds.filter fun p=>p.1 != (n:Int).toNat),[((Vbexai.made st.form (st.finds.filter fun p=>p.1 != (n:Int).toNat)).left.length:Int)]))=_
    rw [Int.toNat_natCast]
   rw [eact,any_find_iff] at k
   cases hf:decide (n ∈ st.finds.map (·.1)) with
   |false=>
    rw [hf,if_pos rfl] at k
    exact iteT (k.one hG)
   |true=>
    rw [hf,if_neg (by decide)] at k
    refine iteF ?_
    have hn':n ∈ st.finds.map (·.1):=of_decide_eq_true hf
    refine ⟨_,rfl,g,dx,_,rfl,hA.at_,rfl,_,rfl,g,dx,hl,pl,d,cn,st,n,rfl,hA,hn',fun H2 pl' K2 hA2=>?_⟩
    refine ⟨_,rfl,g,C,dx,_,_,rfl,hA2.at_,T.cl,T.nP,rfl,pl',_,rfl,.inl (SqL.of hA2.pos),(by show 1≤sizeLine; decide),fun q hq=>?_⟩
    have S3:Same H2 (upd H2 q (.lst [.int ((ofs (Vbexai.made st.form (st.finds.filter fun p=>p.1 != n)).left).length:Nat)])):=(Same.refl H2).new hq
    refine k _ q (K2.trans S3.keep) (K2.free hq) ⟨dx,hl,pl',d,.non,hA2.same S3⟩ ?_ (by show 1≤100; decide)
    rw [upd_same,ofs_len]
    rfl
end
end Rp
namespace Rp
open PySem PySem.Spec PyProof.Rows L2
theorem dec3 {ns:List Int} {c:Vbexai.Call} (h:Vbexai.decode [3::ns]=some c):ns=[]∧c=.finds:=by
 rcases ns with _ | ⟨a,l⟩
 all_goals first
  |(cases h; exact ⟨rfl,rfl⟩)
  |(cases h; done)
theorem dec4 {ns:List Int} {c:Vbexai.Call} (h:Vbexai.decode [4::ns]=some c):ns=[]∧c=.count:=by
 rcases ns with _ | ⟨a,l⟩
 all_goals first
  |(cases h; exact ⟨rfl,rfl⟩)
  |(cases h; done)
theorem dec5 {ns:List Int} {c:Vbexai.Call} (h:Vbexai.decode [5::ns]=some c):∃ a,ns=[a]∧c=.cell a:=by
 rcases ns with _ | ⟨a,_ | ⟨x,l⟩⟩
 all_goals first
  |(cases h; exact ⟨_,rfl,rfl⟩)
  |(cases h; done)
theorem dec6 {ns:List Int} {c:Vbexai.Call} (h:Vbexai.decode [6::ns]=some c):ns=[]∧c=.map:=by
 rcases ns with _ | ⟨a,l⟩
 all_goals first
  |(cases h; exact ⟨rfl,rfl⟩)
  |(cases h; done)
theorem dec7 {ns:List Int} {c:Vbexai.Call} (h:Vbexai.decode [7::ns]=some c):∃ a,ns=[a]∧c=.world a:=by
 rcases ns with _ | ⟨a,_ | ⟨x,l⟩⟩
 all_goals first
  |(cases h; exact ⟨_,rfl,rfl⟩)
  |(cases h; done)
theorem AnsK.listed {C:Addr} {H H1:Hp} {g q:Addr} {st:Vbexai.St} {l:List Int} {Q:VK} (k:AnsK C H g (st,Vbexai.listed l) Q) (K1:Keep H H1) (hG:GlAt C H1 g st) (hq:H1 q=some (.lst (ivs l))) (hl:l.length≤99) :
  1≤sizeLine∧∀ t,H1 t=none→∃ (l' b:Addr) (xs zs:List V),(V.ref t)=.ref l'∧(V.ref q)=.ref b∧(upd H1 t (.lst [.int (l.length:Nat)])) l'=some (.lst xs)∧(upd H1 t (.lst [.int (l.length:Nat)])) b=some (.lst zs)∧xs.length + zs.length≤sizeLine∧∀ p,(upd H1 t (.lst [.int (l.length:Nat)])) p=none→Q (.ref p) (upd (upd H1 t (.lst [.int (l.length:Nat)])) p (.lst (xs ++ zs))):=by
 refine ⟨by decide,fun t ht=>?_⟩
 have nqt:q ≠ t:=ne_of_none hq ht
 refine ⟨t,q,_,_,rfl,rfl,upd_same,(by rw [upd_ne nqt]; exact hq),(by rw [ivs_len]; show 1 + l.length≤sizeLine; have:=nsize (n:=1 + l.length) (by omega); omega),fun p hp=>?_⟩
 have S2:Same H1 (upd H1 t (.lst [.int (l.length:Nat)])):=(Same.refl H1).new ht
 have S3:=S2.new (o:=.lst ([.int (l.length:Nat)] ++ ivs l)) hp
 refine k _ p (K1.trans S3.keep) (K1.free (S2.free hp)) (hG.same S3) ?_ (by show (l.length + 1)≤100; omega)
 rw [upd_same]
 rfl
theorem ofs_ivs (l:List Nat):ofs l=ivs (Vbexai.ints l):=ofs_int l
section
variable {P:Program} {w:World} {K:PySem.W.Frag} {mg:Str→Option Value} {base:Heap}
abbrev sA3:Stmt:=top 56
theorem scA3:FnScope ["glacier","numbers","told","cell","value"] ["glacier","numbers"] (defScope sA3):=⟨rfl,rfl,rfl,by decide +kernel,rfl,by decide +kernel,by decide +kernel⟩
def fl (fs:List Vbexai.Find):List Int:=fs.flatMap fun p=>[(p.1:Int),Vbexai.bit p.2]
theorem fl_snoc (fs:List Vbexai.Find) (p:Vbexai.Find):fl (fs ++ [p])=fl fs ++ [(p.1:Int),Vbexai.bit p.2]:=by
 unfold fl
 rw [List.flatMap_append]; rfl
theorem fl_len (fs:List Vbexai.Find):(fl fs).length=2 * fs.length:=by
 unfold fl
 induction fs with
 |nil=>rfl
 |cons a l ih=>
  rw [List.flatMap_cons,List.length_append,ih,List.length_cons]
  show 2 + 2 * l.length=2 * (l.length + 1)
  omega
theorem ok_a3 {f C:Addr} {fd:FuncData} (F:Fun K "answer_finds" "answer_finds" sA3 f fd) (T:TxG K C) (B:Blt mg):FnOk P w K mg base CX0 1 f fd ["glacier","numbers"] (spAns K C 3):=by
 refine F.ok scA3 (fun vs H Q E h=>?_) (fun cdv A outer s H vs Q E hr h=>?_)
 ·obtain ⟨g,nl,st,ns,c,rfl,_⟩:=h
  rfl
 ·obtain ⟨g,nl,st,ns,c,rfl,hG,hN,hdec,k⟩:=h
  obtain ⟨rfl,rfl⟩:=dec3 hdec
  rw [acted rfl] at k
  have k:AnsK C H g (st,Vbexai.listed (fl st.finds)) Q:=k
  have nd:=scA3.nd
  refine ⟨_,pss_cons (ps_set (i:=2) nd rfl (Or.inl rfl) (pe_lst pa_nil))
   (pss_cons (ps_lock (ps_for PassesOwn.never rfl (pi_items (pe_fld (pv 0) rfl)) (pg_tup rfl (pgs_cons (pg_name (i:=3) nd rfl (Or.inl rfl)) (pgs_cons (pg_name (i:=4) nd rfl (Or.inl rfl)) pgs_nil)))
    (pss_cons (ps_expr (pe_bm PySem.F.plainAttrs_list PySem.F.slot_list_append PySem.F.type_list_append mt_append (pv 2) (pa_cons (pv 3) pa_nil)))
    (pss_one (ps_expr (pe_bm PySem.F.plainAttrs_list PySem.F.slot_list_append PySem.F.type_list_append mt_append (pv 2) (pa_cons (pv 4) pa_nil)))))))
   (pss_one (ps_ret (pe_op op_cat (pe_lst (pa_cons (pe_callB call_len_seq rfl B.len PySem.boot_len (pa_cons (pv 2) pa_nil)) pa_nil)) (pv 2))))),?_⟩
  obtain ⟨dx,hl,pl,d,cn,hA⟩:=id hG
  have hfl:=finds_len hA.ok
  refine ⟨(by show 0≤sizeLine; decide),fun l hl'=>?_⟩
  have S1:Same H (upd H l (.lst [])):=(Same.refl H).new hl'
  have ngd:g ≠ d:=ne_of hA.at_ hA.fin (by intro z; cases z)
  have ndl:d ≠ l:=ne_of_none hA.fin hl'
  have hA1:=hA.same S1
  refine ⟨d,_,hA1.fin,trivial,fun od=>⟨_,rfl,g,C,dx,_,_,rfl,(by rw [upd_ne ngd]; exact hA1.at_),T.cl,T.nF,rfl,d,od,_,rfl,upd_same,?_⟩⟩
  refine for_it (n:=st.finds.length) (fun i σ H'=>∃ v3 v4:Option V,σ=[some (.ref g),some (.ref nl),some (.ref l),v3,v4]∧SameX d H H'∧H' d=some (.frz od (.dK (fnd st.finds)))∧H' l=some (.lst (ivs (fl (st.finds.take i)))))
   ⟨none,none,rfl,SameX.of S1,upd_same,by rw [upd_ne (fun e=>ndl e.symm),upd_same]; rfl⟩ ?_ ?_ ?_ ?_
  ·rintro i σ H2 hi ⟨v3,v4,rfl,S2,h1,h2⟩
   exact ⟨h1,by rw [fnd_len]; exact hi⟩
  ·rintro σ H2 ⟨v3,v4,rfl,S2,h1,h2⟩
   exact ⟨h1,by rw [fnd_len]; exact Nat.le_refl _⟩
  ·rintro i σ H2 y H3 hi ⟨v3,v4,rfl,S2,h1,h2⟩ ⟨tT,key,v,hy,rfl,nT,rfl⟩
   obtain ⟨r,hr',rfl,rfl⟩:=fnd_get hy
   have S3:=S2.new (f:=.tup [kV (Sum.inl (r.1:Int)),.int (Vbexai.bit r.2)]) nT
   have nTd:d ≠ tT:=ne_of_none h1 nT
   have nTl:l ≠ tT:=ne_of_none h2 nT
   have h23:(upd H2 tT (.tup [kV (Sum.inl (r.1:Int)),.int (Vbexai.bit r.2)])) l=some (.lst (ivs (fl (st.finds.take i)))):=by rw [upd_ne nTl]; exact h2
   have hlen:(ivs (fl (st.finds.take i))).length≤72:=by rw [ivs_len,fl_len,List.length_take]; omega
   refine ⟨tT,_,rfl,SqT.of upd_same,rfl,_,_,rfl,_,_,rfl,rfl,?_⟩
   refine ⟨_,rfl,.inl ⟨rfl,_,SqL.of h23⟩,_,rfl,l,_,_,rfl,rfl,h23,nsize (by omega),?_⟩
   refine ⟨_,rfl,.inl ⟨rfl,_,SqL.of upd_same⟩,_,rfl,l,_,_,rfl,rfl,upd_same,(by rw [List.length_append]; exact nsize (by show _ + 1≤1000000; omega)),?_⟩
   refine ⟨_,_,rfl,fun b o e hb=>?_,?_,?_⟩
   ·rw [upd_ne (ne_of_none e hl'),upd_ne (ne_of_none e hl')]
    exact S3 b o e hb
   ·rw [upd_ne ndl,upd_ne ndl,upd_ne nTd]; exact h1
   ·rw [upd_same,take_snoc hr',fl_snoc]
    unfold ivs
    rw [List.map_append,List.append_assoc]; rfl
  ·rintro σ H2 ⟨v3,v4,rfl,S2,h1,h2⟩
   rw [List.take_length] at h2
   refine ⟨h1,?_⟩
   have S3:=S2.back hA.fin
   have h23:(upd H2 d (.dK (fnd st.finds))) l=some (.lst (ivs (fl st.finds))):=by rw [upd_ne (fun e=>ndl e.symm)]; exact h2
   have q:=AnsK.listed k S3.keep (hG.same S3) h23 (by rw [fl_len]; omega)
   refine ⟨_,rfl,l,_,rfl,.inl (SqL.of h23),?_⟩
   rw [ivs_len]
   exact ⟨q.1,fun t ht=>⟨_,rfl,q.2 t ht⟩⟩
abbrev sA4:Stmt:=top 57
theorem scA4:FnScope ["glacier","numbers"] ["glacier","numbers"] (defScope sA4):=⟨rfl,rfl,rfl,by decide +kernel,rfl,by decide +kernel,by decide +kernel⟩
theorem inV_nat (l:List Nat) (n:Nat):inV (.int (n:Int)) (ofs l)=decide (n ∈ l):=by
 unfold inV
 induction l with
 |nil=>rfl
 |cons a l ih=>
  have e0:ofs (a::l)=.int (a:Int)::ofs l:=rfl
  rw [e0,List.any_cons,ih]
  have ee:eqV (.int (a:Int)) (.int (n:Int))=decide (a=n):=by
   show ((a:Int) == (n:Int))=decide (a=n)
   by_cases e:a=n
   ·subst e; simp
   ·have e2:¬ (a:Int)=(n:Int):=by omega
    simp [e,e2]
  rw [ee]
  by_cases e:a=n
  ·subst e; simp
  ·have e':¬ n=a:=fun z=>e z.symm
   simp [e,e']
theorem count_zero {l:List Nat} (h:l.Pairwise (· < ·)):l.countP (fun x=>x == 0)=if 0 ∈ l then 1 else 0:=by
 induction l with
 |nil=>rfl
 |cons a l ih=>
  rw [List.pairwise_cons] at h
  rw [List.countP_cons,ih h.2]
  have h0:0 ∉ l:=fun z=>by have:=h.1 0 z; omega
  rw [if_neg h0]
  by_cases e:a=0
  ·subst e; simp
  ·have e':¬ (0=a):=fun z=>e z.symm
   simp [e,e',h0]
theorem ok_a4 {f C:Addr} {fd:FuncData} (F:Fun K "answer_count" "answer_count" sA4 f fd) (T:TxG K C) (B:Blt mg):FnOk P w K mg base CX0 1 f fd ["glacier","numbers"] (spAns K C 4):=by
 refine F.ok scA4 (fun vs H Q E h=>?_) (fun cdv A outer s H vs Q E hr h=>?_)
 ·obtain ⟨g,nl,st,ns,c,rfl,_⟩:=h
  rfl
 ·obtain ⟨g,nl,st,ns,c,rfl,hG,hN,hdec,k⟩:=h
  obtain ⟨rfl,rfl⟩:=dec4 hdec
  rw [acted rfl] at k
  refine ⟨_,pss_one (ps_ret (pe_lst (pa_cons (pe_callB call_len_seq rfl B.len PySem.boot_len (pa_cons (pe_fld (pv 0) rfl) pa_nil)) (pa_cons (pe_ifExp (pt_cmpR op_in_seq pe_int (pe_fld (pv 0) rfl) rfl) pe_int pe_int) pa_nil)))),?_⟩
  obtain ⟨dx,hl,pl,d,cn,hA⟩:=id hG
  have hsort:st.left.Pairwise (· < ·):=by rw [hA.ok.left]; exact filter_sorted _ (worlds_sorted _)
  have ec:(st.left.countP fun x=>x == 0)=if 0 ∈ st.left then 1 else 0:=count_zero hsort
  have k:AnsK C H g (st,[(st.left.length:Int),((st.left.countP fun x=>x == 0:Nat):Int)]) Q:=k
  rw [ec] at k
  refine ⟨_,rfl,g,C,dx,_,_,rfl,hA.at_,T.cl,T.nP,rfl,pl,_,rfl,.inl (SqL.of hA.pos),_,rfl,g,C,dx,_,_,rfl,hA.at_,T.cl,T.nP,rfl,pl,_,rfl,.inl (SqL.of hA.pos),rfl,?_,_,rfl,?_⟩
  ·rw [List.all_eq_true]
   intro x hx
   obtain ⟨n,_,rfl⟩:=List.mem_map.mp hx
   rfl
  ·have e1:inV (.int 0) (ofs st.left)=decide (0 ∈ st.left):=inV_nat st.left 0
   rw [ofs_len]
   show if (if false=true then !inV (V.int 0) (ofs st.left) else inV (V.int 0) (ofs st.left))=true then _ else _
   rw [if_neg (show ¬ (false=true) by decide),e1]
   refine ite2 (fun h1=>?_) (fun h1=>?_)
   ·rw [if_pos (of_decide_eq_true h1)] at k
    exact ⟨(by show 2≤sizeLine; decide),fun l hl'=>k _ l ((Same.refl H).new hl').keep hl' (hG.same ((Same.refl H).new hl')) upd_same (by show 2≤100; decide)⟩
   ·rw [if_neg (fun z=>h1 (decide_eq_true z))] at k
    exact ⟨(by show 2≤sizeLine; decide),fun l hl'=>k _ l ((Same.refl H).new hl').keep hl' (hG.same ((Same.refl H).new hl')) upd_same (by show 2≤100; decide)⟩
abbrev sA5:Stmt:=top 58
theorem scA5:FnScope ["glacier","numbers","cell","known","with_hole"] ["glacier","numbers"] (defScope sA5):=⟨rfl,rfl,rfl,by decide +kernel,rfl,by decide +kernel,by decide +kernel⟩
theorem ok_a5 {f f1 f2 f3 C:Addr} {fd fd1 fd2 fd3:FuncData} (F:Fun K "answer_cell" "answer_cell" sA5 f fd) (T:TxG K C) (B:Blt mg) (cO:Num mg "OUT_OF_RANGE" (-1))
  (m1:Mth P w K mg base C "has_cell" 2 ["self","cell"] (spHas C) f1 fd1) (m2:Mth P w K mg base C "knowledge" 2 ["self"] (spKn C) f2 fd2) (c3:Cal P w K mg base "agreeing" 1 ["numbers","cell","value"] (spAgr K) f3 fd3) :
  FnOk P w K mg base CX0 3 f fd ["glacier","numbers"] (spAns K C 5):=by
 obtain ⟨uO,eO,rO⟩:=cO
 refine F.ok scA5 (fun vs H Q E h=>?_) (fun cdv A outer s H vs Q E hr h=>?_)
 ·obtain ⟨g,nl,st,ns,c,rfl,_⟩:=h
  rfl
 ·obtain ⟨g,nl,st,ns,c,rfl,hG,hN,hdec,k⟩:=h
  obtain ⟨c,rfl,rfl⟩:=dec5 hdec
  have nd:=scA5.nd
  have hr1:Room 1 _:=hr.mono (by decide)
  refine ⟨_,pss_cons (ps_set (i:=2) nd rfl (Or.inl rfl) (pe_ix ix_list (pv 1) pe_int (fun _ _=>rfl)))
   (pss_cons (ps_if (pt_not (pt_val (pe_meth (pv 0) T.cl m1.m m1.G hr m1.b .nil pass0 (pa_cons (pv 2) pa_nil)))) (pss_one (ps_ret (pe_lst (pa_cons (pe_glob rfl eO rO) pa_nil)))) pss_nil)
   (pss_cons (ps_set (i:=3) nd rfl (Or.inl rfl) (pe_meth0 (pv 0) T.cl m2.m m2.G hr m2.b .nil pass0))
   (pss_cons (ps_set (i:=4) nd rfl (Or.inl rfl) (pe_call c3.G hr1 rfl c3.g c3.kp c3.b .nil pass0 (pa_cons (pe_fld (pv 0) rfl) (pa_cons (pv 2) (pa_cons pe_int pa_nil)))))
   (pss_one (ps_ret (pe_lst (pa_cons (pe_ix ix_list (pv 3) (pv 2) (fun _ _=>rfl)) (pa_cons (pe_callB call_len_seq rfl B.len PySem.boot_len (pa_cons (pv 4) pa_nil)) (pa_cons (pe_callB call_len_seq rfl B.len PySem.boot_len (pa_cons (pe_fld (pv 0) rfl) pa_nil)) pa_nil))))))))),?_⟩
  obtain ⟨dx,hl,pl,d,cn,hA⟩:=id hG
  refine ⟨_,rfl,nl,_,_,_,rfl,rfl,hN,rfl,?_⟩
  refine ⟨_,rfl,g,dx,_,rfl,hA.at_,rfl,_,rfl,g,dx,hl,pl,d,cn,st,c,rfl,hA.at_,hA.ok.fo,_,rfl,?_⟩
  have er:Vbexai.ranged st (.cell c)=Vbexai.isCell st c:=rfl
  cases e:Vbexai.isCell st c with
  |false=>
   rw [refused (er.trans e)] at k
   exact iteT (k.one hG)
  |true=>
   rw [acted (er.trans e)] at k
   refine iteF ?_
   obtain ⟨n,rfl,hn⟩:=isCell_nat hA.ok.fo e
   have k:AnsK C H g (st,[(Vbexai.statusOf st n:Int),((st.left.countP fun x=>Vbexai.hole x n:Nat):Int),(st.left.length:Int)]) Q:=k
   refine ⟨_,rfl,g,dx,_,rfl,hA.at_,rfl,g,dx,hl,pl,d,cn,st,rfl,hA,fun H1 p S1 np hp=>?_⟩
   have hA1:=hA.same S1
   refine ⟨_,rfl,g,C,dx,_,_,rfl,hA1.at_,T.cl,T.nP,rfl,_,rfl,pl,st.left,n,true,rfl,SqL.of hA1.pos,hA.ok.left_len,fun H2 p2 S2 np2 hp2=>?_⟩
   have hA2:=hA1.same S2
   have hat:(ofs (stats st (st.form.w * st.form.h)))[n]?=some (.int (Vbexai.statusOf st n:Nat)):=by unfold ofs stats; rw [List.getElem?_map,map_range_at _ hn]; rfl
   have S12:=S1.trans S2
   refine ⟨_,rfl,_,rfl,p,_,_,_,rfl,rfl,SqL.of (S2 _ _ hp),atI_nat hat,_,rfl,p2,_,rfl,.inl (SqL.of hp2),_,rfl,g,C,dx,_,_,rfl,hA2.at_,T.cl,T.nP,rfl,pl,_,rfl,.inl (SqL.of hA2.pos),(by show 3≤sizeLine; decide),fun l hl'=>?_⟩
   have S3:=S12.new (o:=.lst [.int (Vbexai.statusOf st n:Nat),.int ((ofs (st.left.filter fun x=>Vbexai.hole x n == true)).length:Nat),.int ((ofs st.left).length:Nat)]) hl'
   refine k _ l S3.keep (S12.free hl') (hG.same S3) ?_ (by show 3≤100; decide)
   rw [upd_same,ofs_len,ofs_len,← List.countP_eq_length_filter]
   have e3:(st.left.countP fun x=>Vbexai.hole x n == true)=st.left.countP fun x=>Vbexai.hole x n:=by
    congr 1
    funext x
    cases Vbexai.hole x n <;> rfl
   rw [e3]
   rfl
abbrev sA6:Stmt:=top 59
theorem scA6:FnScope ["glacier","numbers","known"] ["glacier","numbers"] (defScope sA6):=⟨rfl,rfl,rfl,by decide +kernel,rfl,by decide +kernel,by decide +kernel⟩
theorem ok_a6 {f f2 C:Addr} {fd fd2:FuncData} (F:Fun K "answer_map" "answer_map" sA6 f fd) (T:TxG K C) (B:Blt mg) (m2:Mth P w K mg base C "knowledge" 2 ["self"] (spKn C) f2 fd2):FnOk P w K mg base CX0 3 f fd ["glacier","numbers"] (spAns K C 6):=by
 refine F.ok scA6 (fun vs H Q E h=>?_) (fun cdv A outer s H vs Q E hr h=>?_)
 ·obtain ⟨g,nl,st,ns,c,rfl,_⟩:=h
  rfl
 ·obtain ⟨g,nl,st,ns,c,rfl,hG,hN,hdec,k⟩:=h
  obtain ⟨rfl,rfl⟩:=dec6 hdec
  rw [acted rfl] at k
  have nd:=scA6.nd
  refine ⟨_,pss_cons (ps_set (i:=2) nd rfl (Or.inl rfl) (pe_meth0 (pv 0) T.cl m2.m m2.G hr m2.b .nil pass0))
   (pss_one (ps_ret (pe_op op_cat (pe_lst (pa_cons (pe_callB call_len_seq rfl B.len PySem.boot_len (pa_cons (pv 2) pa_nil)) pa_nil)) (pv 2)))),?_⟩
  obtain ⟨dx,hl,pl,d,cn,hA⟩:=id hG
  have hwh:=hA.ok.fo.wh
  have k:AnsK C H g (st,Vbexai.listed (Vbexai.ints (stats st (st.form.w * st.form.h)))) Q:=k
  refine ⟨_,rfl,g,dx,_,rfl,hA.at_,rfl,g,dx,hl,pl,d,cn,st,rfl,hA,fun H1 p S1 np hp=>?_⟩
  rw [ofs_ivs] at hp
  have hil:(Vbexai.ints (stats st (st.form.w * st.form.h))).length≤36:=by unfold Vbexai.ints stats; rw [List.length_map,List.length_map,List.length_range]; exact hwh
  have q:=AnsK.listed k S1.keep (hG.same S1) hp (by omega)
  refine ⟨_,rfl,p,_,rfl,.inl (SqL.of hp),?_⟩
  rw [ivs_len]
  exact ⟨q.1,fun t ht=>⟨_,rfl,q.2 t ht⟩⟩
abbrev sA7:Stmt:=top 60
theorem scA7:FnScope ["glacier","numbers","k","cells"] ["glacier","numbers"] (defScope sA7):=⟨rfl,rfl,rfl,by decide +kernel,rfl,by decide +kernel,by decide +kernel⟩
theorem ok_a7 {f f1 C:Addr} {fd fd1:FuncData} (F:Fun K "answer_world" "answer_world" sA7 f fd) (T:TxG K C) (B:Blt mg) (cO:Num mg "OUT_OF_RANGE" (-1)) (cN:Num mg "NOT_THERE" (-4)) (cL:Num mg "LAST_WORLD" 100000)
  (c1:Cal P w K mg base "holes" 1 ["number"] spHoles f1 fd1):FnOk P w K mg base CX0 2 f fd ["glacier","numbers"] (spAns K C 7):=by
 obtain ⟨uO,eO,rO⟩:=cO
 obtain ⟨uN,eN,rN⟩:=cN
 obtain ⟨uL,eL,rL⟩:=cL
 refine F.ok scA7 (fun vs H Q E h=>?_) (fun cdv A outer s H vs Q E hr h=>?_)
 ·obtain ⟨g,nl,st,ns,c,rfl,_⟩:=h
  rfl
 ·obtain ⟨g,nl,st,ns,c,rfl,hG,hN,hdec,k⟩:=h
  obtain ⟨c,rfl,rfl⟩:=dec7 hdec
  have nd:=scA7.nd
  refine ⟨_,pss_cons (ps_set (i:=2) nd rfl (Or.inl rfl) (pe_ix ix_list (pv 1) pe_int (fun _ _=>rfl)))
   (pss_cons (ps_if (pt_not (pt_chain op_le op_le pe_int (pv 2) (pe_glob rfl eL rL))) (pss_one (ps_ret (pe_lst (pa_cons (pe_glob rfl eO rO) pa_nil)))) pss_nil)
   (pss_cons (ps_if (pt_cmpR op_ge (pv 2) (pe_callB call_len_seq rfl B.len PySem.boot_len (pa_cons (pe_fld (pv 0) rfl) pa_nil)) (nomark _)) (pss_one (ps_ret (pe_lst (pa_cons (pe_glob rfl eN rN) pa_nil)))) pss_nil)
   (pss_cons (ps_set (i:=3) nd rfl (Or.inl rfl) (pe_call c1.G hr rfl c1.g c1.kp c1.b .nil pass0 (pa_cons (pe_ix ix_list (pe_fld (pv 0) rfl) (pv 2) (fun _ _=>rfl)) pa_nil)))
   (pss_one (ps_ret (pe_op op_cat (pe_lst (pa_cons (pe_callB call_len_seq rfl B.len PySem.boot_len (pa_cons (pv 3) pa_nil)) pa_nil)) (pv 3))))))),?_⟩
  obtain ⟨dx,hl,pl,d,cn,hA⟩:=id hG
  have hwh:=hA.ok.fo.wh
  have er:Vbexai.ranged st (.world c)=Vbexai.within c 0 100000:=rfl
  refine ⟨_,rfl,nl,_,_,_,rfl,rfl,hN,rfl,?_⟩
  have no:Vbexai.within c 0 100000=false→1≤sizeLine∧∀ l,H l=none→Q (.ref l) (upd H l (.lst [.int (-1)])):=fun z=>by
   rw [refused (er.trans z)] at k
   exact k.one hG
  refine ⟨_,rfl,_,_,rfl,rfl,_,rfl,ite2 (fun h1=>?_) (fun h1=>?_)⟩
  ·have h1':0≤c:=of_decide_eq_true h1
   refine ⟨_,_,rfl,rfl,_,rfl,?_⟩
   cases h2:decide (c≤100000) with
   |false=>exact iteT (no (by unfold Vbexai.within; rw [h2,Bool.and_false]))
   |true=>
    refine iteF ?_
    rw [acted (er.trans (within_iff.mpr ⟨h1',of_decide_eq_true h2⟩))] at k
    obtain ⟨n,rfl⟩:=Int.eq_ofNat_of_zero_le h1'
    have k:AnsK C H g (match st.left[n]? with | none=>(st,[-4]) | some x=>(st,Vbexai.listed (Vbexai.ints (Vbexai.holesOf st.form x)))) Q:=k
    refine ⟨_,rfl,_,rfl,g,C,dx,_,_,rfl,hA.at_,T.cl,T.nP,rfl,pl,_,rfl,.inl (SqL.of hA.pos),_,_,rfl,rfl,_,rfl,?_⟩
    rw [ofs_len]
    refine ite2 (fun h3=>?_) (fun h3=>?_)
    ·have h3':st.left.length≤n:=by have:=of_decide_eq_true h3; omega
     rw [List.getElem?_eq_none h3'] at k
     exact k.one hG
    ·have h3':n < st.left.length:=Nat.lt_of_not_le fun z=>h3 (decide_eq_true (by omega))
     obtain ⟨x,hx⟩:∃ x,st.left[n]?=some x:=⟨_,List.getElem?_eq_getElem h3'⟩
     rw [hx] at k
     have hxl:=hA.ok.left_lt x (List.mem_of_getElem? hx)
     refine ⟨_,rfl,g,C,dx,_,_,rfl,hA.at_,T.cl,T.nP,rfl,_,rfl,pl,_,_,_,rfl,rfl,SqL.of hA.pos,atI_nat (v:=.int (x:Nat)) (by unfold ofs; rw [List.getElem?_map,hx]; rfl),x,st.form.w * st.form.h,rfl,hxl,by omega,fun H1 p S1 np hp=>?_⟩
     have k:AnsK C H g (st,Vbexai.listed (Vbexai.ints ((List.range (st.form.w * st.form.h)).filter (Vbexai.hole x)))) Q:=k
     rw [ofs_ivs] at hp
     have hil:(Vbexai.ints ((List.range (st.form.w * st.form.h)).filter (Vbexai.hole x))).length≤36:=by
      unfold Vbexai.ints
      rw [List.length_map]
      have:=List.length_filter_le (Vbexai.hole x) (List.range (st.form.w * st.form.h))
      rw [List.length_range] at this
      omega
     have q:=AnsK.listed k S1.keep (hG.same S1) hp (by omega)
     refine ⟨_,rfl,p,_,rfl,.inl (SqL.of hp),?_⟩
     rw [ivs_len]
     exact ⟨q.1,fun t ht=>⟨_,rfl,q.2 t ht⟩⟩
  ·exact ⟨_,rfl,iteT (no (by unfold Vbexai.within; rw [decide_eq_false (fun z=>h1 (decide_eq_true z)),Bool.false_and]))⟩
end
end Rp
namespace Rp
open PySem PySem.Spec PyProof.Rows L2
theorem dec8 {ns:List Int} {c:Vbexai.Call} (h:Vbexai.decode [8::ns]=some c):∃ a b,ns=[a,b]∧c=.way a b:=by
 rcases ns with _ | ⟨a,_ | ⟨b,_ | ⟨x,l⟩⟩⟩
 all_goals first
  |(cases h; exact ⟨_,_,rfl,rfl⟩)
  |(cases h; done)
theorem dec15 {ns:List Int} {c:Vbexai.Call} (h:Vbexai.decode [15::ns]=some c):ns=[]∧c=.split:=by
 rcases ns with _ | ⟨a,l⟩
 all_goals first
  |(cases h; exact ⟨rfl,rfl⟩)
  |(cases h; done)
theorem dec16 {ns:List Int} {c:Vbexai.Call} (h:Vbexai.decode [16::ns]=some c):∃ a b,ns=[a,b]∧c=.suppose a b:=by
 rcases ns with _ | ⟨a,_ | ⟨b,_ | ⟨x,l⟩⟩⟩
 all_goals first
  |(cases h; exact ⟨_,_,rfl,rfl⟩)
  |(cases h; done)
theorem dec17 {ns:List Int} {c:Vbexai.Call} (h:Vbexai.decode [17::ns]=some c):ns=[]∧c=.form:=by
 rcases ns with _ | ⟨a,l⟩
 all_goals first
  |(cases h; exact ⟨rfl,rfl⟩)
  |(cases h; done)
theorem unfound_lt {st:Vbexai.St} {c:Nat} (h:c ∈ Vbexai.unfound st):c < st.form.w * st.form.h:=by
 unfold Vbexai.unfound Vbexai.cellsOf at h
 exact List.mem_range.mp (List.mem_filter.mp h).1
theorem unfound_nd (st:Vbexai.St):(Vbexai.unfound st).Nodup:=by
 unfold Vbexai.unfound Vbexai.cellsOf
 exact List.nodup_range.filter _
theorem unfound_len (st:Vbexai.St):(Vbexai.unfound st).length≤st.form.w * st.form.h:=by
 unfold Vbexai.unfound Vbexai.cellsOf
 have:=List.length_filter_le (fun c=>!st.finds.any fun p=>p.1 == c) (List.range (st.form.w * st.form.h))
 rw [List.length_range] at this
 exact this
section
variable {P:Program} {w:World} {K:PySem.W.Frag} {mg:Str→Option Value} {base:Heap}
abbrev sA8:Stmt:=top 61
theorem scA8:FnScope ["glacier","numbers","start","goal","directions"] ["glacier","numbers"] (defScope sA8):=⟨rfl,rfl,rfl,by decide +kernel,rfl,by decide +kernel,by decide +kernel⟩
theorem ok_a8 {f f1 f2 f3 C:Addr} {fd fd1 fd2 fd3:FuncData} (F:Fun K "answer_way" "answer_way" sA8 f fd) (T:TxG K C) (B:Blt mg) (cO:Num mg "OUT_OF_RANGE" (-1)) (cN:Num mg "NONE_THERE" (-9))
  (m1:Mth P w K mg base C "has_cell" 2 ["self","cell"] (spHas C) f1 fd1) (m2:Mth P w K mg base C "surely_firm" 3 ["self"] (spSf C) f2 fd2) (c3:Cal P w K mg base "shortest_way" 3 ["width","height","firm","start","goal"] spSw f3 fd3) :
  FnOk P w K mg base CX0 4 f fd ["glacier","numbers"] (spAns K C 8):=by
 obtain ⟨uO,eO,rO⟩:=cO
 obtain ⟨uN,eN,rN⟩:=cN
 refine F.ok scA8 (fun vs H Q E h=>?_) (fun cdv A outer s H vs Q E hr h=>?_)
 ·obtain ⟨g,nl,st,ns,c,rfl,_⟩:=h
  rfl
 ·obtain ⟨g,nl,st,ns,c,rfl,hG,hN,hdec,k⟩:=h
  obtain ⟨a,b,rfl,rfl⟩:=dec8 hdec
  have nd:=scA8.nd
  have hr2:Room 2 _:=hr.mono (by decide)
  refine ⟨_,pss_cons (ps_set (i:=2) nd rfl (Or.inl rfl) (pe_ix ix_list (pv 1) pe_int (fun _ _=>rfl)))
   (pss_cons (ps_set (i:=3) nd rfl (Or.inl rfl) (pe_ix ix_list (pv 1) pe_int (fun _ _=>rfl)))
   (pss_cons (ps_if (pw_or (pt_not (pt_val (pe_meth (pv 0) T.cl m1.m m1.G hr2 m1.b .nil pass0 (pa_cons (pv 2) pa_nil)))) (pw_or1 (pt_not (pt_val (pe_meth (pv 0) T.cl m1.m m1.G hr2 m1.b .nil pass0 (pa_cons (pv 3) pa_nil)))))).pt (pss_one (ps_ret (pe_lst (pa_cons (pe_glob rfl eO rO) pa_nil)))) pss_nil)
   (pss_cons (ps_set (i:=4) nd rfl (Or.inl rfl) (pe_call c3.G hr rfl c3.g c3.kp c3.b .nil pass0 (pa_cons (pe_fld (pv 0) rfl) (pa_cons (pe_fld (pv 0) rfl) (pa_cons (pe_meth0 (pv 0) T.cl m2.m m2.G hr m2.b .nil pass0) (pa_cons (pv 2) (pa_cons (pv 3) pa_nil)))))))
   (pss_cons (ps_if (pt_cmp (pc_isN (pv 4))) (pss_one (ps_ret (pe_lst (pa_cons (pe_glob rfl eN rN) pa_nil)))) pss_nil)
   (pss_one (ps_ret (pe_op op_cat (pe_lst (pa_cons (pe_callB call_len_seq rfl B.len PySem.boot_len (pa_cons (pv 4) pa_nil)) pa_nil)) (pv 4)))))))),?_⟩
  obtain ⟨dx,hl,pl,d,cn,hA⟩:=id hG
  have fo:=hA.ok.fo
  have hwh:=fo.wh
  have er:Vbexai.ranged st (.way a b)=(Vbexai.isCell st a && Vbexai.isCell st b):=rfl
  have no:(Vbexai.isCell st a && Vbexai.isCell st b)=false→1≤sizeLine∧∀ l,H l=none→Q (.ref l) (upd H l (.lst [.int (-1)])):=fun z=>by
   rw [refused (er.trans z)] at k
   exact k.one hG
  refine ⟨_,rfl,nl,_,_,_,rfl,rfl,hN,rfl,?_⟩
  refine ⟨_,rfl,nl,_,_,_,rfl,rfl,hN,rfl,?_⟩
  refine ⟨_,rfl,g,dx,_,rfl,hA.at_,rfl,_,rfl,g,dx,hl,pl,d,cn,st,a,rfl,hA.at_,fo,_,rfl,?_⟩
  cases e1:Vbexai.isCell st a with
  |false=>exact iteT (iteT (no (by rw [e1]; rfl)))
  |true=>
   refine iteF ?_
   refine ⟨_,rfl,g,dx,_,rfl,hA.at_,rfl,_,rfl,g,dx,hl,pl,d,cn,st,b,rfl,hA.at_,fo,_,rfl,?_⟩
   cases e2:Vbexai.isCell st b with
   |false=>exact iteT (no (by rw [e1,e2]; rfl))
   |true=>
    refine iteF ?_
    rw [acted (er.trans (by rw [e1,e2]; rfl))] at k
    obtain ⟨a,rfl,ha⟩:=isCell_nat fo e1
    obtain ⟨b,rfl,hb⟩:=isCell_nat fo e2
    have k:AnsK C H g (match Vbexai.wayTo st.form (Vbexai.firm st) a b with | none=>(st,[-9]) | some l=>(st,Vbexai.listed (Vbexai.ints l))) Q:=k
    refine ⟨_,rfl,g,C,dx,_,_,rfl,hA.at_,T.cl,T.nW,rfl,_,rfl,g,C,dx,_,_,rfl,hA.at_,T.cl,T.nH,rfl,_,rfl,g,dx,_,rfl,hA.at_,rfl,g,dx,hl,pl,d,cn,st,rfl,hA,fun H1 p S1 np hp=>?_⟩
    have hcong:Vbexai.wayTo st.form (okD (firms st (st.form.w * st.form.h))) a b=Vbexai.wayTo st.form (Vbexai.firm st) a b:=by
     refine wayTo_congr (fun c hc=>?_) ha
     unfold okD firms
     by_cases q:Vbexai.firm st c=true
     ·rw [q]
      exact decide_eq_true (List.mem_filter.mpr ⟨List.mem_range.mpr hc,q⟩)
     ·rw [Bool.eq_false_iff.mpr q]
      exact decide_eq_false fun z=>q (List.mem_filter.mp z).2
    rw [← hcong] at k
    refine ⟨_,rfl,_,rfl,st.form,p,_,a,b,rfl,⟨fo.w1,fo.w6,fo.h6⟩,hp,fun c hc=>List.mem_range.mp (List.mem_filter.mp hc).1,fun H2 S2 e=>?_,fun H2 q l S2 nq hq e hlen=>?_⟩
    ·rw [e] at k
     have S12:=S1.trans S2
     exact ⟨_,rfl,_,rfl,iteT ((k.same S12).one (hG.same S12))⟩
    ·rw [e] at k
     have S12:=S1.trans S2
     rw [ofs_ivs] at hq
     have hil:(Vbexai.ints l).length≤36:=by unfold Vbexai.ints; rw [List.length_map]; exact hlen
     have qq:=AnsK.listed k S12.keep (hG.same S12) hq (by omega)
     refine ⟨_,rfl,_,rfl,iteF ?_⟩
     refine ⟨_,rfl,q,_,rfl,.inl (SqL.of hq),?_⟩
     rw [ivs_len]
     exact ⟨qq.1,fun t ht=>⟨_,rfl,qq.2 t ht⟩⟩
abbrev sA15:Stmt:=top 68
theorem scA15:FnScope ["glacier","numbers","cells"] ["glacier","numbers"] (defScope sA15):=⟨rfl,rfl,rfl,by decide +kernel,rfl,by decide +kernel,by decide +kernel⟩
theorem ok_a15 {f f1 f2 f3 C:Addr} {fd fd1 fd2 fd3:FuncData} (F:Fun K "answer_split" "answer_split" sA15 f fd) (T:TxG K C) (B:Blt mg) (cN:Num mg "NONE_THERE" (-9))
  (m1:Mth P w K mg base C "cells_to_probe" 2 ["self"] (spCp C) f1 fd1) (m2:Mth P w K mg base C "counted_holes" 3 ["self"] (spCh C) f2 fd2) (c3:Cal P w K mg base "best_split" 1 ["counts","total","cells"] (spBs K) f3 fd3) :
  FnOk P w K mg base CX0 4 f fd ["glacier","numbers"] (spAns K C 15):=by
 obtain ⟨uN,eN,rN⟩:=cN
 refine F.ok scA15 (fun vs H Q E h=>?_) (fun cdv A outer s H vs Q E hr h=>?_)
 ·obtain ⟨g,nl,st,ns,c,rfl,_⟩:=h
  rfl
 ·obtain ⟨g,nl,st,ns,c,rfl,hG,hN,hdec,k⟩:=h
  obtain ⟨rfl,rfl⟩:=dec15 hdec
  rw [acted rfl] at k
  have k:AnsK C H g (match Vbexai.splitCell st.left (Vbexai.unfound st) with | none=>(st,[-9]) | some c=>(st,[(c:Int),(Vbexai.worst st.left c:Int)])) Q:=k
  have nd:=scA15.nd
  have hr2:Room 2 _:=hr.mono (by decide)
  have hr1:Room 1 _:=hr.mono (by decide)
  refine ⟨_,pss_cons (ps_set (i:=2) nd rfl (Or.inl rfl) (pe_meth0 (pv 0) T.cl m1.m m1.G hr2 m1.b .nil pass0))
   (pss_cons (ps_if (pt_cmpR op_eq (pe_callB call_len_seq rfl B.len PySem.boot_len (pa_cons (pv 2) pa_nil)) pe_int (nomark _)) (pss_one (ps_ret (pe_lst (pa_cons (pe_glob rfl eN rN) pa_nil)))) pss_nil)
   (pss_one (ps_ret (pe_call c3.G hr1 rfl c3.g c3.kp c3.b .nil pass0 (pa_cons (pe_meth0 (pv 0) T.cl m2.m m2.G hr m2.b .nil pass0) (pa_cons (pe_callB call_len_seq rfl B.len PySem.boot_len (pa_cons (pe_fld (pv 0) rfl) pa_nil)) (pa_cons (pv 2) pa_nil))))))),?_⟩
  obtain ⟨dx,hl,pl,d,cn,hA⟩:=id hG
  refine ⟨_,rfl,g,dx,_,rfl,hA.at_,rfl,g,dx,hl,pl,d,cn,st,rfl,hA,fun H1 p S1 np hp=>?_⟩
  refine ⟨_,rfl,p,_,rfl,.inl (SqL.of hp),rfl,_,rfl,?_⟩
  rw [ofs_len,Rp.dec_int]
  have hG1:=hG.same S1
  refine ite2 (fun h1=>?_) (fun h1=>?_)
  ·have h0:Vbexai.unfound st=[]:=by
    have:=of_decide_eq_true h1
    exact List.length_eq_zero_iff.mp (by omega)
   rw [h0] at k
   exact (k.same S1).one hG1
  ·have h0:Vbexai.unfound st ≠ []:=fun z=>h1 (decide_eq_true (by rw [z]; rfl))
   obtain ⟨dx1,hl1,pl1,d1,cn1,hA1⟩:=id hG1
   refine ⟨_,rfl,g,dx1,_,rfl,hA1.at_,rfl,g,st,rfl,hG1,fun H2 q K2 hG2 hq=>?_⟩
   obtain ⟨dx2,hl2,pl2,d2,cn2,hA2⟩:=id hG2
   refine ⟨_,rfl,g,C,dx2,_,_,rfl,hA2.at_,T.cl,T.nP,rfl,pl2,_,rfl,.inl (SqL.of hA2.pos),_,rfl,?_⟩
   rw [ofs_len]
   have hp2:H2 p=some (.lst (ofs (Vbexai.unfound st))):=K2.1 _ _ hp (fun _ _ _ z=>nomatch z) (fun _ z=>nomatch z)
   have K12:=S1.keep.trans K2
   refine ⟨q,p,st.left,Vbexai.unfound st,st.form.w * st.form.h,rfl,SqL.of hq,SqL.of hp2,fun c hc=>unfound_lt hc,hA.ok.left_len,fun H3 S3 e=>absurd (split_none e) h0,fun H3 t c S3 nt ht e=>?_⟩
   rw [e] at k
   exact k H3 t (K12.trans S3.keep) (K12.free nt) (hG2.same S3) ht (by show 2≤100; decide)
abbrev sA16:Stmt:=top 69
theorem scA16:FnScope ["glacier","numbers","left"] ["glacier","numbers"] (defScope sA16):=⟨rfl,rfl,rfl,by decide +kernel,rfl,by decide +kernel,by decide +kernel⟩
theorem ok_a16 {f f1 f2 f3 f4 f5 C:Addr} {fd fd1 fd2 fd3 fd4 fd5:FuncData} (F:Fun K "answer_suppose" "answer_suppose" sA16 f fd) (T:TxG K C) (B:Blt mg) (cO:Num mg "OUT_OF_RANGE" (-1))
  (c1:Cal P w K mg base "is_find" 3 ["glacier","numbers"] (spIfd K C) f1 fd1) (c2:Cal P w K mg base "agreeing" 1 ["numbers","cell","value"] (spAgr K) f2 fd2) (m3:Mth P w K mg base C "cell_count" 1 ["self"] (spCc C) f3 fd3)
  (c4:Cal P w K mg base "holes" 1 ["number"] spHoles f4 fd4) (c5:Cal P w K mg base "ever_holes" 1 ["numbers"] (spEver K) f5 fd5) :
  FnOk P w K mg base CX0 4 f fd ["glacier","numbers"] (spAns K C 16):=by
 obtain ⟨uO,eO,rO⟩:=cO
 refine F.ok scA16 (fun vs H Q E h=>?_) (fun cdv A outer s H vs Q E hr h=>?_)
 ·obtain ⟨g,nl,st,ns,c,rfl,_⟩:=h
  rfl
 ·obtain ⟨g,nl,st,ns,c,rfl,hG,hN,hdec,k⟩:=h
  obtain ⟨c,v,rfl,rfl⟩:=dec16 hdec
  have nd:=scA16.nd
  have hr1:Room 1 _:=hr.mono (by decide)
  refine ⟨_,pss_cons (ps_if (pt_not (pt_val (pe_call c1.G hr rfl c1.g c1.kp c1.b .nil pass0 (pa_cons (pv 0) (pa_cons (pv 1) pa_nil))))) (pss_one (ps_ret (pe_lst (pa_cons (pe_glob rfl eO rO) pa_nil)))) pss_nil)
   (pss_cons (ps_set (i:=2) nd rfl (Or.inl rfl) (pe_call c2.G hr1 rfl c2.g c2.kp c2.b .nil pass0 (pa_cons (pe_fld (pv 0) rfl) (pa_cons (pe_ix ix_list (pv 1) pe_int (fun _ _=>rfl)) (pa_cons (pe_ix ix_list (pv 1) pe_int (fun _ _=>rfl)) pa_nil)))))
   (pss_cons (ps_if (pt_cmpR op_eq (pe_callB call_len_seq rfl B.len PySem.boot_len (pa_cons (pv 2) pa_nil)) pe_int (nomark _)) (pss_one (ps_ret (pe_lst (pa_cons pe_int (pa_cons pe_int pa_nil))))) pss_nil)
   (pss_one (ps_ret (pe_lst (pa_cons (pe_callB call_len_seq rfl B.len PySem.boot_len (pa_cons (pv 2) pa_nil)) (pa_cons (pe_op op_sub (pe_meth0 (pv 0) T.cl m3.m m3.G hr1 m3.b .nil pass0)
    (pe_callB call_len_seq rfl B.len PySem.boot_len (pa_cons (pe_call c4.G hr1 rfl c4.g c4.kp c4.b .nil pass0 (pa_cons (pe_call c5.G hr1 rfl c5.g c5.kp c5.b .nil pass0 (pa_cons (pv 2) pa_nil)) pa_nil)) pa_nil))) pa_nil))))))),?_⟩
  refine ⟨_,rfl,_,rfl,g,nl,st,c,v,rfl,hG,hN,_,rfl,?_⟩
  have er:Vbexai.ranged st (.suppose c v)=(Vbexai.isCell st c && Vbexai.within v 0 1):=rfl
  cases e:(Vbexai.isCell st c && Vbexai.within v 0 1) with
  |false=>
   rw [refused (er.trans e)] at k
   exact iteT (k.one hG)
  |true=>
   rw [acted (er.trans e)] at k
   rw [Bool.and_eq_true] at e
   refine iteF ?_
   obtain ⟨dx,hl,pl,d,cn,hA⟩:=id hG
   have fo:=hA.ok.fo
   have hwh:=fo.wh
   obtain ⟨n,rfl,hn⟩:=isCell_nat fo e.1
   obtain ⟨b,rfl⟩:∃ b:Bool,v=Vbexai.bit b:=by
    have:=within_iff.mp e.2
    by_cases z:v=1
    ·exact ⟨true,z⟩
    ·exact ⟨false,by show v=0; omega⟩
   have eb:(Vbexai.bit b == 1)=b:=by cases b <;> rfl
   have eact:Vbexai.act st (.suppose (n:Int) (Vbexai.bit b))=(st,[((st.left.filter fun x=>Vbexai.hole x n == b).length:Int),if (st.left.filter fun x=>Vbexai.hole x n == b).isEmpty=true then 0 else (((Vbexai.cellsOf st.form).countP fun d=>(st.left.filter fun x=>Vbexai.hole x n == b).all fun x=>!Vbexai.hole x d:Nat):Int)]):=by
    show (st,[((st.left.filter fun x=>Vbexai.hole x (n:Int).toNat == (Vbexai.bit b == 1)).length:Int),if (st.left.filter fun x=>Vbexai.hole x (n:Int).toNat == (Vbexai.bit b == 1)).isEmpty=true then 0 else (((Vbexai.cellsOf st.form).countP fun d=>(st.left.filter fun x=>Vbexai.hole x (n:Int).toNat == (Vbexai.bit b == 1)).all fun x=>!Vbexai.hole x d:Nat):Int)])=_
    rw [eb,Int.toNat_natCast]
   rw [eact] at k
   refine ⟨_,rfl,g,C,dx,_,_,rfl,hA.at_,T.cl,T.nP,rfl,_,rfl,nl,_,_,_,rfl,rfl,hN,rfl,_,rfl,nl,_,_,_,rfl,rfl,hN,rfl,pl,st.left,n,b,rfl,SqL.of hA.pos,hA.ok.left_len,fun H1 p S1 np hp=>?_⟩
   have hlt:∀ x ∈ st.left.filter (fun x=>Vbexai.hole x n == b),x < 2 ^ (st.form.w * st.form.h):=fun x hx=>hA.ok.left_lt x (List.mem_filter.mp hx).1
   have hll:(st.left.filter fun x=>Vbexai.hole x n == b).length≤100000:=Nat.le_trans (List.length_filter_le _ _) hA.ok.left_len
   generalize el:st.left.filter (fun x=>Vbexai.hole x n == b)=l at k hp hlt hll
   have hA1:=hA.same S1
   refine ⟨_,rfl,p,_,rfl,.inl (SqL.of hp),rfl,_,rfl,?_⟩
   rw [ofs_len,Rp.dec_int]
   cases l with
   |nil=>
    refine iteT ⟨(by show 2≤sizeLine; decide),fun q hq=>?_⟩
    have S2:=S1.new (o:=.lst [.int 0,.int 0]) hq
    exact k _ q S2.keep (S1.free hq) (hG.same S2) upd_same (by show 2≤100; decide)
   |cons x l'=>
    have hz:decide ((((x::l').length:Nat):Int)=0)=false:=decide_eq_false (by rw [List.length_cons]; omega)
    rw [hz]
    rw [if_neg (by simp)] at k
    refine iteF ?_
    have hor:=orW_lt hlt
    refine ⟨_,rfl,p,_,rfl,.inl (SqL.of hp),_,rfl,g,dx,_,rfl,hA1.at_,rfl,g,dx,hl,pl,d,cn,st.form,rfl,hA1.at_,fo.w6,fo.h6,_,rfl,p,_,rfl,SqL.of hp,orW (x::l'),st.form.w * st.form.h,rfl,hor,by omega,fun H2 p2 S2 np2 hp2=>?_⟩
    have hfl:((List.range (st.form.w * st.form.h)).filter (Vbexai.hole (orW (x::l')))).length≤st.form.w * st.form.h:=by
     have:=List.length_filter_le (Vbexai.hole (orW (x::l'))) (List.range (st.form.w * st.form.h))
     rw [List.length_range] at this
     exact this
    have hfc:=firm_count (x::l') (st.form.w * st.form.h)
    have S12:=S1.trans S2
    refine ⟨p2,_,rfl,.inl (SqL.of hp2),o0 rfl rfl (v:=.int (((List.range (st.form.w * st.form.h)).countP fun d=>(x::l').all fun x=>!Vbexai.hole x d:Nat):Int)) (congrArg V.int ?_) ⟨(by show 2≤sizeLine; decide),fun q hq=>?_⟩⟩
    ·rw [ofs_len,← hfc]
     omega
    ·have S3:=S12.new (o:=.lst [.int ((ofs (x::l')).length:Nat),.int (((List.range (st.form.w * st.form.h)).countP fun d=>(x::l').all fun x=>!Vbexai.hole x d:Nat):Int)]) hq
     refine k _ q S3.keep (S12.free hq) (hG.same S3) ?_ (by show 2≤100; decide)
     rw [upd_same,ofs_len]
     rfl
abbrev sA17:Stmt:=top 70
theorem scA17:FnScope ["glacier","numbers"] ["glacier","numbers"] (defScope sA17):=⟨rfl,rfl,rfl,by decide +kernel,rfl,by decide +kernel,by decide +kernel⟩
theorem ok_a17 {f C:Addr} {fd:FuncData} (F:Fun K "answer_form" "answer_form" sA17 f fd) (T:TxG K C):FnOk P w K mg base CX0 1 f fd ["glacier","numbers"] (spAns K C 17):=by
 refine F.ok scA17 (fun vs H Q E h=>?_) (fun cdv A outer s H vs Q E hr h=>?_)
 ·obtain ⟨g,nl,st,ns,c,rfl,_⟩:=h
  rfl
 ·obtain ⟨g,nl,st,ns,c,rfl,hG,hN,hdec,k⟩:=h
  obtain ⟨rfl,rfl⟩:=dec17 hdec
  rw [acted rfl] at k
  refine ⟨_,pss_one (ps_ret (pe_lst (pa_cons (pe_fld (pv 0) rfl) (pa_cons (pe_fld (pv 0) rfl) (pa_cons (pe_fld (pv 0) rfl) (pa_cons (pe_fld (pv 0) rfl) (pa_cons (pe_fld (pv 0) rfl) pa_nil))))))),?_⟩
  obtain ⟨dx,hl,pl,d,cn,hA⟩:=id hG
  refine ⟨_,rfl,g,C,dx,_,_,rfl,hA.at_,T.cl,T.nW,rfl,_,rfl,g,C,dx,_,_,rfl,hA.at_,T.cl,T.nH,rfl,_,rfl,g,C,dx,_,_,rfl,hA.at_,T.cl,T.nL,rfl,_,rfl,g,C,dx,_,_,rfl,hA.at_,T.cl,T.nM,rfl,_,rfl,g,C,dx,_,_,rfl,hA.at_,T.cl,T.nY,rfl,(by show 5≤sizeLine; decide),fun l hl'=>?_⟩
  exact k _ l ((Same.refl H).new hl').keep hl' (hG.same ((Same.refl H).new hl')) upd_same (by show 5≤100; decide)
end
end Rp
namespace Rp
open PySem PySem.Spec PyProof.Rows L2
def spWay (K:PySem.W.Frag) (C:Addr) (op:Int) (lim:Nat):Sp:=fun vs H Q _=>∃ (g nl wl:Addr) (st:Vbexai.St) (ns p:List Int) (c:Vbexai.Call),vs=[.ref g,.ref nl,.ref wl]∧GlAt C H g st∧SqL K H nl (ivs ns)∧SqL K H wl (ivs p)∧Vbexai.decode [op::ns,p]=some c∧Vbexai.ranged st c=true∧st.left.length≤lim∧AnsK C H g (Vbexai.act st c) Q
theorem way_nats {st:Vbexai.St} (fo:FormOk st.form) {p:List Int} (h:Vbexai.wayOk st p=true):∃ way:List Nat,p=Vbexai.ints way∧Vbexai.nats p=way∧way.length≤12∧∀ c ∈ way,c < st.form.w * st.form.h:=by
 unfold Vbexai.wayOk at h
 rw [Bool.and_eq_true,Bool.and_eq_true] at h
 obtain ⟨h1,h2,_⟩:=h
 have hc:∀ c ∈ p,∃ n:Nat,c=(n:Int)∧n < st.form.w * st.form.h:=fun c hc=>isCell_nat fo (List.all_eq_true.mp h2 c hc)
 have e:Vbexai.ints (Vbexai.nats p)=p:=by
  unfold Vbexai.ints Vbexai.nats
  rw [List.map_map]
  have:∀ l:List Int,(∀ c ∈ l,0≤c)→l.map ((fun (n:Nat)=>(n:Int)) ∘ Int.toNat)=l:=fun l hl=>by
   induction l with
   |nil=>rfl
   |cons a l ih=>
    rw [List.map_cons,ih fun c hc=>hl c (List.mem_cons_of_mem _ hc)]
    show ((a.toNat:Nat):Int)::l=a::l
    rw [Int.toNat_of_nonneg (hl a (by simp))]
  exact this p fun c hcp=>by
   obtain ⟨n,rfl,_⟩:=hc c hcp
   omega
 refine ⟨Vbexai.nats p,e.symm,rfl,?_,fun c hcn=>?_⟩
 ·unfold Vbexai.nats
  rw [List.length_map]
  exact of_decide_eq_true h1
 ·unfold Vbexai.nats at hcn
  obtain ⟨z,hz,rfl⟩:=List.mem_map.mp hcn
  obtain ⟨n,rfl,hn⟩:=hc z hz
  rw [Int.toNat_natCast]
  exact hn
theorem dec9 {ns p:List Int} {c:Vbexai.Call} (h:Vbexai.decode [9::ns,p]=some c):ns=[]∧c=.look p:=by
 rcases ns with _ | ⟨a,l⟩
 all_goals first
  |(cases h; exact ⟨rfl,rfl⟩)
  |(cases h; done)
theorem dec10 {ns p:List Int} {c:Vbexai.Call} (h:Vbexai.decode [10::ns,p]=some c):∃ a b d,ns=[a,b,d]∧c=.rope a b d p:=by
 rcases ns with _ | ⟨a,_ | ⟨b,_ | ⟨d,_ | ⟨x,l⟩⟩⟩⟩
 all_goals first
  |(cases h; exact ⟨_,_,_,rfl,rfl⟩)
  |(cases h; done)
theorem dec11 {ns p:List Int} {c:Vbexai.Call} (h:Vbexai.decode [11::ns,p]=some c):∃ a b,ns=[a,b]∧c=.fewest a b p:=by
 rcases ns with _ | ⟨a,_ | ⟨b,_ | ⟨x,l⟩⟩⟩
 all_goals first
  |(cases h; exact ⟨_,_,rfl,rfl⟩)
  |(cases h; done)
theorem dec12 {ns p:List Int} {c:Vbexai.Call} (h:Vbexai.decode [12::ns,p]=some c):∃ a b,ns=[a,b]∧c=.spacing a b p:=by
 rcases ns with _ | ⟨a,_ | ⟨b,_ | ⟨x,l⟩⟩⟩
 all_goals first
  |(cases h; exact ⟨_,_,rfl,rfl⟩)
  |(cases h; done)
theorem dec13 {ns p:List Int} {c:Vbexai.Call} (h:Vbexai.decode [13::ns,p]=some c):ns=[]∧c=.cover p:=by
 rcases ns with _ | ⟨a,l⟩
 all_goals first
  |(cases h; exact ⟨rfl,rfl⟩)
  |(cases h; done)
theorem dec14 {ns p:List Int} {c:Vbexai.Call} (h:Vbexai.decode [14::ns,p]=some c):ns=[]∧c=.plan p:=by
 rcases ns with _ | ⟨a,l⟩
 all_goals first
  |(cases h; exact ⟨rfl,rfl⟩)
  |(cases h; done)
theorem within_nat {n lo hi:Int} (h:Vbexai.within n lo hi=true) (h0:0≤lo):∃ m:Nat,n=(m:Int)∧lo≤(m:Int)∧(m:Int)≤hi:=by
 have:=within_iff.mp h
 exact ⟨n.toNat,by omega,by omega,by omega⟩
theorem settled_count (l:List Nat) (p:List Nat):(decide ((l.filter fun x=>Vbexai.clear x p).length=0) || decide ((l.filter fun x=>Vbexai.clear x p).length=l.length))=Vbexai.settled l p:=by
 unfold Vbexai.settled
 rw [Bool.or_comm]
 congr 1
 ·rw [Bool.eq_iff_iff,decide_eq_true_iff,List.all_eq_true]
  constructor
  ·intro e x hx
   exact (List.filter_eq_self.mp (List.Sublist.eq_of_length List.filter_sublist e)) x hx
  ·intro e
   rw [List.filter_eq_self.mpr e]
 ·rw [Bool.eq_iff_iff,decide_eq_true_iff,List.all_eq_true]
  constructor
  ·intro e x hx
   have:=List.filter_eq_nil_iff.mp (List.length_eq_zero_iff.mp e) x hx
   simpa using this
  ·intro e
   rw [List.length_eq_zero_iff,List.filter_eq_nil_iff]
   intro x hx
   have:=e x hx
   simpa using this
section
variable {P:Program} {w:World} {K:PySem.W.Frag} {mg:Str→Option Value} {base:Heap}
abbrev sA9:Stmt:=top 62
theorem scA9:FnScope ["glacier","numbers","way","total","clear","most"] ["glacier","numbers","way"] (defScope sA9):=⟨rfl,rfl,rfl,by decide +kernel,rfl,by decide +kernel,by decide +kernel⟩
theorem ok_a9 {f f1 f2 f3 C D:Addr} {fd fd1 fd2 fd3:FuncData} (F:Fun K "answer_look" "answer_look" sA9 f fd) (T:TxG K C) (B:Blt mg) (TC:TxC K D) (M:Mk K D f2) (gD:mg "Crossing"=some (.ref D))
  (c1:Cal P w K mg base "clear_fields" 2 ["possible","way"] (spCf K) f1 fd1) (G2:FnOk P w K mg base CX0 3 f2 fd2 ["self","possible","way"] (spCi K D)) (b2:Binds K fd2 ["self","possible","way"] []) (m3:Mth P w K mg base D "most_holes" 1 ["self"] (spMh D) f3 fd3) :
  FnOk P w K mg base CX0 5 f fd ["glacier","numbers","way"] (spWay K C 9 100000):=by
 refine F.ok scA9 (fun vs H Q E h=>?_) (fun cdv A outer s H vs Q E hr h=>?_)
 ·obtain ⟨g,nl,wl,st,ns,p,c,rfl,_⟩:=h
  rfl
 ·obtain ⟨g,nl,wl,st,ns,p,c,rfl,hG,hN,hW,hdec,hrg,hlim,k⟩:=h
  obtain ⟨rfl,rfl⟩:=dec9 hdec
  have nd:=scA9.nd
  have hr2:Room 2 _:=hr.mono (by decide)
  have hr1:Room 1 _:=hr.mono (by decide)
  refine ⟨_,pss_cons (ps_set (i:=3) nd rfl (Or.inl rfl) (pe_callB call_len_seq rfl B.len PySem.boot_len (pa_cons (pe_fld (pv 0) rfl) pa_nil)))
   (pss_cons (ps_set (i:=4) nd rfl (Or.inl rfl) (pe_callB call_len_seq rfl B.len PySem.boot_len (pa_cons (pe_call c1.G hr2 rfl c1.g c1.kp c1.b .nil pass0 (pa_cons (pe_fld (pv 0) rfl) (pa_cons (pv 2) pa_nil))) pa_nil)))
   (pss_cons (ps_set (i:=5) nd rfl (Or.inl rfl) (pe_meth0 (pe_make M G2 hr rfl gD b2 .nil pass0 (pa_cons (pe_fld (pv 0) rfl) (pa_cons (pv 2) pa_nil))) TC.cl m3.m m3.G hr1 m3.b .nil pass0))
   (pss_one (ps_ret (pe_lst (pa_cons (pv 4) (pa_cons (pv 5) (pa_cons (pe_ifExp (pw_or (pt_cmpR op_eq (pv 4) pe_int (nomark _)) (pw_or1 (pt_cmpR op_eq (pv 4) (pv 3) (nomark _)))).pt pe_int pe_int) pa_nil)))))))),?_⟩
  obtain ⟨dx,hl,pl,d,cn,hA⟩:=id hG
  have fo:=hA.ok.fo
  have hwh:=fo.wh
  obtain ⟨way,rfl,hnat,hwl,hwc⟩:=way_nats fo (show Vbexai.wayOk st p=true from hrg)
  rw [← ofs_ivs] at hW
  have hc1000:∀ c ∈ way,c≤1000:=fun c hc=>by have:=hwc c hc; omega
  have k:AnsK C H g (st,[((st.left.countP fun x=>Vbexai.clear x (Vbexai.nats (Vbexai.ints way)):Nat):Int),((st.left.foldl (fun m x=>max m ((Vbexai.nats (Vbexai.ints way)).filter fun c=>Vbexai.hole x c).length) 0:Nat):Int),Vbexai.bit (Vbexai.settled st.left (Vbexai.nats (Vbexai.ints way)))]) Q:=k
  rw [hnat,List.countP_eq_length_filter,← settled_count] at k
  refine ⟨_,rfl,g,C,dx,_,_,rfl,hA.at_,T.cl,T.nP,rfl,pl,_,rfl,.inl (SqL.of hA.pos),?_⟩
  rw [ofs_len]
  refine ⟨_,rfl,g,C,dx,_,_,rfl,hA.at_,T.cl,T.nP,rfl,_,rfl,pl,wl,st.left,way,rfl,SqL.of hA.pos,hW,hc1000,hA.ok.left_len,fun H1 q S1 nq hq=>?_⟩
  refine ⟨q,_,rfl,.inl (SqL.of hq),?_⟩
  rw [ofs_len]
  generalize en:(st.left.filter fun x=>Vbexai.clear x way).length=n at k
  have hA1:=hA.same S1
  refine ⟨_,rfl,g,C,dx,_,_,rfl,hA1.at_,T.cl,T.nP,rfl,_,rfl,?_⟩
  intro x dx2 nx ndx nex
  have hxX:∀ {a:Addr} {xs:List V},SqL K H1 a xs→SqL K (upd (upd H1 dx2 (.own x)) x (.ins D dx2 [])) a xs:=fun h=>Same.seq (((Same.refl H1).new ndx).up nx) h
  refine ⟨x,dx2,pl,wl,st.left,way,rfl,upd_same,hxX (SqL.of hA1.pos),hxX (S1.seq hW),hwl,hc1000,hA.ok.left_len,fun H2 hC X2=>⟨rfl,?_⟩⟩
  have S2:Same H1 H2:=Same.made nx ndx X2
  obtain ⟨dxc,dc,lc,hx2,_⟩:=id hC.ex
  refine ⟨x,dxc,_,rfl,hx2,rfl,x,st.left,way,rfl,hC,hA.ok.ne,hA.ok.left_len,fun H3 S3=>?_⟩
  have S123:=(S1.trans S2).trans S3
  refine ⟨_,rfl,_,rfl,_,rfl,rfl,_,rfl,?_⟩
  rw [Rp.dec_int]
  have e1:decide ((n:Int)=0)=decide (n=0):=by
   by_cases z:n=0
   ·subst z; rfl
   ·rw [decide_eq_false z,decide_eq_false (by omega)]
  have e2:decide (V.int (n:Int)=V.int (st.left.length:Nat))=decide (n=st.left.length):=by
   rw [Rp.dec_int]
   by_cases z:n=st.left.length
   ·rw [z]; simp
   ·rw [decide_eq_false z,decide_eq_false (by omega)]
  rw [e1]
  have fin:∀ b:Bool,(decide (n=0) || decide (n=st.left.length))=b→3≤sizeLine∧∀ l,H3 l=none→Q (.ref l) (upd H3 l (.lst [.int (n:Nat),.int ((st.left.foldl (fun m x=>max m (way.filter fun c=>Vbexai.hole x c).length) 0:Nat):Int),.int (Vbexai.bit b)])):=fun b hb=>by
   rw [hb] at k
   refine ⟨by decide,fun l hl'=>?_⟩
   have S4:=S123.new (o:=.lst [.int (n:Nat),.int ((st.left.foldl (fun m x=>max m (way.filter fun c=>Vbexai.hole x c).length) 0:Nat):Int),.int (Vbexai.bit b)]) hl'
   exact k _ l S4.keep (S123.free hl') (hG.same S4) upd_same (by show 3≤100; decide)
  refine ite2 (fun h1=>iteT (fin true (by rw [h1]; rfl))) (fun h1=>?_)
  refine ⟨_,rfl,_,rfl,rfl,_,rfl,?_⟩
  rw [e2]
  refine ite2 (fun h2=>fin true (by rw [h2,Bool.or_true])) (fun h2=>fin false (by rw [Bool.eq_false_iff.mpr h1,Bool.eq_false_iff.mpr h2]; rfl))
abbrev sA10:Stmt:=top 63
theorem scA10:FnScope ["glacier","numbers","way","crossing","fall","cells"] ["glacier","numbers","way"] (defScope sA10):=⟨rfl,rfl,rfl,by decide +kernel,rfl,by decide +kernel,by decide +kernel⟩
theorem ok_a10 {f f2 f3 f4 C D:Addr} {fd fd2 fd3 fd4:FuncData} (F:Fun K "answer_rope" "answer_rope" sA10 f fd) (T:TxG K C) (B:Blt mg) (TC:TxC K D) (M:Mk K D f2) (gD:mg "Crossing"=some (.ref D))
  (G2:FnOk P w K mg base CX0 3 f2 fd2 ["self","possible","way"] (spCi K D)) (b2:Binds K fd2 ["self","possible","way"] []) (m3:Mth P w K mg base D "first_fall" 2 ["self","members","spacing","hold"] (spFa D) f3 fd3) (c4:Cal P w K mg base "holes" 1 ["number"] spHoles f4 fd4) :
  FnOk P w K mg base CX0 5 f fd ["glacier","numbers","way"] (spWay K C 10 1000):=by
 refine F.ok scA10 (fun vs H Q E h=>?_) (fun cdv A outer s H vs Q E hr h=>?_)
 ·obtain ⟨g,nl,wl,st,ns,p,c,rfl,_⟩:=h
  rfl
 ·obtain ⟨g,nl,wl,st,ns,p,c,rfl,hG,hN,hW,hdec,hrg,hlim,k⟩:=h
  obtain ⟨n,sp,hold,rfl,rfl⟩:=dec10 hdec
  have nd:=scA10.nd
  have hr2:Room 2 _:=hr.mono (by decide)
  have hr1:Room 1 _:=hr.mono (by decide)
  refine ⟨_,pss_cons (ps_set (i:=3) nd rfl (Or.inl rfl) (pe_make M G2 hr rfl gD b2 .nil pass0 (pa_cons (pe_fld (pv 0) rfl) (pa_cons (pv 2) pa_nil))))
   (pss_cons (ps_set (i:=4) nd rfl (Or.inl rfl) (pe_meth (pv 3) TC.cl m3.m m3.G hr2 m3.b .nil pass0 (pa_cons (pe_ix ix_list (pv 1) pe_int (fun _ _=>rfl)) (pa_cons (pe_ix ix_list (pv 1) pe_int (fun _ _=>rfl)) (pa_cons (pe_ix ix_list (pv 1) pe_int (fun _ _=>rfl)) pa_nil)))))
   (pss_cons (ps_if (pt_cmp (pc_isN (pv 4))) (pss_one (ps_ret (pe_lst (pa_cons pe_int pa_nil)))) pss_nil)
   (pss_cons (ps_set (i:=5) nd rfl (Or.inl rfl) (pe_call c4.G hr1 rfl c4.g c4.kp c4.b .nil pass0 (pa_cons (pe_ix ix_tup (pv 4) pe_int (fun _ _=>rfl)) pa_nil)))
   (pss_one (ps_ret (pe_op op_cat (pe_lst (pa_cons pe_int (pa_cons (pe_ix ix_tup (pv 4) pe_int (fun _ _=>rfl)) (pa_cons (pe_ix ix_tup (pv 4) pe_int (fun _ _=>rfl)) (pa_cons (pe_callB call_len_seq rfl B.len PySem.boot_len (pa_cons (pv 5) pa_nil)) pa_nil))))) (pv 5))))))),?_⟩
  obtain ⟨dx,hl,pl,d,cn,hA⟩:=id hG
  have fo:=hA.ok.fo
  have hwh:=fo.wh
  have hrg':(Vbexai.within n 1 9 && (Vbexai.within sp 1 6 && (Vbexai.within hold 1 4 && Vbexai.wayOk st p)))=true:=hrg
  rw [Bool.and_eq_true,Bool.and_eq_true,Bool.and_eq_true] at hrg'
  obtain ⟨q1,q2,q3,q4⟩:=hrg'
  obtain ⟨n,rfl,n1,n2⟩:=within_nat q1 (by decide)
  obtain ⟨sp,rfl,s1,s2⟩:=within_nat q2 (by decide)
  obtain ⟨hold,rfl,h1,h2⟩:=within_nat q3 (by decide)
  obtain ⟨way,rfl,hnat,hwl,hwc⟩:=way_nats fo q4
  rw [← ofs_ivs] at hW
  have hc1000:∀ c ∈ way,c≤1000:=fun c hc=>by have:=hwc c hc; omega
  have k:AnsK C H g (st,if Vbexai.ROPE < st.left.length then [-8] else match Vbexai.breaks st.left (Vbexai.nats (Vbexai.ints way)) n sp hold with
   |none=>[1]
   |some (t,y)=>[0,(t:Int),((Vbexai.fallen y (Vbexai.nats (Vbexai.ints way)) n sp t:Nat):Int)] ++ Vbexai.listed (Vbexai.ints (Vbexai.holesOf st.form y))) Q:=k
  rw [hnat,if_neg (show ¬ Vbexai.ROPE < st.left.length from Nat.not_lt.mpr hlim)] at k
  refine ⟨_,rfl,g,C,dx,_,_,rfl,hA.at_,T.cl,T.nP,rfl,_,rfl,?_⟩
  intro x dx2 nx ndx nex
  have hxX:∀ {a:Addr} {xs:List V},SqL K H a xs→SqL K (upd (upd H dx2 (.own x)) x (.ins D dx2 [])) a xs:=fun h=>Same.seq (((Same.refl H).new ndx).up nx) h
  refine ⟨x,dx2,pl,wl,st.left,way,rfl,upd_same,hxX (SqL.of hA.pos),hxX hW,hwl,hc1000,hA.ok.left_len,fun H2 hC X2=>⟨rfl,?_⟩⟩
  have S2:Same H H2:=Same.made nx ndx X2
  obtain ⟨dxc,dc,lc,hx2,_⟩:=id hC.ex
  have N2:=S2.seq hN
  refine ⟨_,rfl,x,dxc,_,rfl,hx2,rfl,_,rfl,nl,_,_,_,rfl,rfl,N2,rfl,_,rfl,nl,_,_,_,rfl,rfl,N2,rfl,_,rfl,nl,_,_,_,rfl,rfl,N2,rfl,x,st.left,way,n,sp,hold,rfl,hC,hwl,⟨by omega,by omega⟩,⟨by omega,by omega⟩,by omega,fun H3 S3 e=>?_,fun H3 q t y S3 hq e hy=>?_⟩
  ·rw [e] at k
   have S23:=S2.trans S3
   refine ⟨_,rfl,_,rfl,iteT ((k.same S23).one (hG.same S23))⟩
  ·rw [e] at k
   have S23:=S2.trans S3
   refine ⟨_,rfl,_,rfl,iteF ?_⟩
   have hyl:=hA.ok.left_lt y hy
   refine ⟨_,rfl,q,_,_,_,rfl,rfl,SqT.of hq,rfl,y,st.form.w * st.form.h,rfl,hyl,by omega,fun H4 p4 S4 np4 hp4=>?_⟩
   have S234:=S23.trans S4
   have hq4:=S4 _ _ hq
   have hlen:((List.range (st.form.w * st.form.h)).filter (Vbexai.hole y)).length≤36:=by
    have:=List.length_filter_le (Vbexai.hole y) (List.range (st.form.w * st.form.h))
    rw [List.length_range] at this
    omega
   refine ⟨_,rfl,q,_,_,_,rfl,rfl,SqT.of hq4,rfl,_,rfl,q,_,_,_,rfl,rfl,SqT.of hq4,rfl,_,rfl,p4,_,rfl,.inl (SqL.of hp4),(by show 4≤sizeLine; decide),fun t5 ht5=>⟨_,rfl,?_⟩⟩
   have n45:p4 ≠ t5:=ne_of_none hp4 ht5
   refine ⟨t5,p4,_,_,rfl,rfl,upd_same,(by rw [upd_ne n45]; exact hp4),(by rw [ofs_len]; show 4 + _≤sizeLine; have:=nsize (n:=4 + ((List.range (st.form.w * st.form.h)).filter (Vbexai.hole y)).length) (by omega); omega),fun t6 ht6=>?_⟩
   have S5:=S234.new (o:=.lst [.int 0,.int (t:Nat),.int (Vbexai.fallen y way n sp t:Nat),.int ((ofs ((List.range (st.form.w * st.form.h)).filter (Vbexai.hole y))).length:Nat)]) ht5
   have S6:=S5.new (o:=.lst ([.int 0,.int (t:Nat),.int (Vbexai.fallen y way n sp t:Nat),.int ((ofs ((List.range (st.form.w * st.form.h)).filter (Vbexai.hole y))).length:Nat)] ++ ofs ((List.range (st.form.w * st.form.h)).filter (Vbexai.hole y)))) ht6
   refine k _ t6 S6.keep (S5.free ht6) (hG.same S6) ?_ ?_
   ·rw [upd_same,ofs_len,ofs_ivs]
    unfold Vbexai.listed Vbexai.holesOf Vbexai.cellsOf ivs
    rw [List.map_append,List.map_cons]
    unfold Vbexai.ints
    rw [List.length_map]
    rfl
   ·show ([0,(t:Int),((Vbexai.fallen y way n sp t:Nat):Int)] ++ Vbexai.listed (Vbexai.ints (Vbexai.holesOf st.form y))).length≤100
    unfold Vbexai.listed Vbexai.ints Vbexai.holesOf Vbexai.cellsOf
    simp only [List.length_append,List.length_cons,List.length_map,List.length_nil]
    omega
end
end Rp
namespace Rp
open PySem PySem.Spec PyProof.Rows L2
theorem find_map_no {p:Nat→Bool} {m:Nat} (h:∀ k,k < m→p (k + 1)=false):((List.range m).map fun k=>k + 1).find? p=none:=by
 rw [List.find?_eq_none]
 intro x hx
 obtain ⟨k,hk,rfl⟩:=List.mem_map.mp hx
 rw [h k (List.mem_range.mp hk)]
 decide
theorem find_map_at {p:Nat→Bool} {m i:Nat} (hi:i < m) (h:∀ k,k < i→p (k + 1)=false) (hp:p (i + 1)=true):((List.range m).map fun k=>k + 1).find? p=some (i + 1):=by
 rw [List.find?_map]
 have:(List.range m).find? (p ∘ fun k=>k + 1)=some i:=find_first hi hp h
 rw [this]
 rfl
section
variable {P:Program} {w:World} {K:PySem.W.Frag} {mg:Str→Option Value} {base:Heap}
abbrev sA11:Stmt:=top 64
theorem scA11:FnScope ["glacier","numbers","way","crossing","members"] ["glacier","numbers","way"] (defScope sA11):=⟨rfl,rfl,rfl,by decide +kernel,rfl,by decide +kernel,by decide +kernel⟩
theorem ok_a11 {f f2 f3 C D:Addr} {fd fd2 fd3:FuncData} (F:Fun K "answer_fewest" "answer_fewest" sA11 f fd) (T:TxG K C) (B:Blt mg) (TC:TxC K D) (M:Mk K D f2) (gD:mg "Crossing"=some (.ref D)) (cM:Num mg "MOST_MEMBERS" 9) (cN:Num mg "NONE_THERE" (-9))
  (G2:FnOk P w K mg base CX0 3 f2 fd2 ["self","possible","way"] (spCi K D)) (b2:Binds K fd2 ["self","possible","way"] []) (m3:Mth P w K mg base D "is_safe" 3 ["self","members","spacing","hold"] (spSafe D) f3 fd3) :
  FnOk P w K mg base CX0 5 f fd ["glacier","numbers","way"] (spWay K C 11 1000):=by
 obtain ⟨uM,eM,rM⟩:=cM
 obtain ⟨uN,eN,rN⟩:=cN
 refine F.ok scA11 (fun vs H Q E h=>?_) (fun cdv A outer s H vs Q E hr h=>?_)
 ·obtain ⟨g,nl,wl,st,ns,p,c,rfl,_⟩:=h
  rfl
 ·obtain ⟨g,nl,wl,st,ns,p,c,rfl,hG,hN,hW,hdec,hrg,hlim,k⟩:=h
  obtain ⟨sp,hold,rfl,rfl⟩:=dec11 hdec
  have nd:=scA11.nd
  have hr3:Room 3 _:=hr.mono (by decide)
  refine ⟨_,pss_cons (ps_set (i:=3) nd rfl (Or.inl rfl) (pe_make M G2 hr rfl gD b2 .nil pass0 (pa_cons (pe_fld (pv 0) rfl) (pa_cons (pv 2) pa_nil))))
   (pss_cons (ps_for PassesOwn.never rfl (pi_range2 rfl B.range (pa_cons pe_int (pa_cons (pe_op op_add (pe_glob rfl eM rM) pe_int) pa_nil))) (pg_name (i:=4) nd rfl (Or.inl rfl))
    (pss_one (ps_if (pt_val (pe_meth (pv 3) TC.cl m3.m m3.G hr3 m3.b .nil pass0 (pa_cons (pv 4) (pa_cons (pe_ix ix_list (pv 1) pe_int (fun _ _=>rfl)) (pa_cons (pe_ix ix_list (pv 1) pe_int (fun _ _=>rfl)) pa_nil))))) (pss_one (ps_ret (pe_lst (pa_cons (pv 4) pa_nil)))) pss_nil)))
   (pss_one (ps_ret (pe_lst (pa_cons (pe_glob rfl eN rN) pa_nil))))),?_⟩
  obtain ⟨dx,hl,pl,d,cn,hA⟩:=id hG
  have fo:=hA.ok.fo
  have hwh:=fo.wh
  have hrg':(Vbexai.within sp 1 6 && (Vbexai.within hold 1 4 && Vbexai.wayOk st p))=true:=hrg
  rw [Bool.and_eq_true,Bool.and_eq_true] at hrg'
  obtain ⟨q2,q3,q4⟩:=hrg'
  obtain ⟨sp,rfl,s1,s2⟩:=within_nat q2 (by decide)
  obtain ⟨hold,rfl,h1,h2⟩:=within_nat q3 (by decide)
  obtain ⟨way,rfl,hnat,hwl,hwc⟩:=way_nats fo q4
  rw [← ofs_ivs] at hW
  have hc1000:∀ c ∈ way,c≤1000:=fun c hc=>by have:=hwc c hc; omega
  have k:AnsK C H g (if Vbexai.ROPE < st.left.length then (st,[-8]) else (match ((List.range 9).map fun k=>k + 1).find? fun n=>(Vbexai.breaks st.left (Vbexai.nats (Vbexai.ints way)) n sp hold).isNone with
   |none=>(st,[-9])
   |some n=>(st,[(n:Int)]))) Q:=k
  rw [hnat,if_neg (show ¬ Vbexai.ROPE < st.left.length from Nat.not_lt.mpr hlim)] at k
  refine ⟨_,rfl,g,C,dx,_,_,rfl,hA.at_,T.cl,T.nP,rfl,_,rfl,?_⟩
  intro x dx2 nx ndx nex
  have hxX:∀ {a:Addr} {xs:List V},SqL K H a xs→SqL K (upd (upd H dx2 (.own x)) x (.ins D dx2 [])) a xs:=fun h=>Same.seq (((Same.refl H).new ndx).up nx) h
  refine ⟨x,dx2,pl,wl,st.left,way,rfl,upd_same,hxX (SqL.of hA.pos),hxX hW,hwl,hc1000,hA.ok.left_len,fun H2 hC X2=>⟨rfl,?_⟩⟩
  have S2:Same H H2:=Same.made nx ndx X2
  refine ⟨_,_,rfl,rfl,_,_,rfl,⟨by decide,by decide,by decide,by decide⟩,?_⟩
  refine for_range (n:=9) (fun i σ H'=>(∃ v4:Option V,σ=[some (.ref g),some (.ref nl),some (.ref wl),some (.ref x),v4])∧Same H H'∧CrAt D H' x st.left way∧∀ m,m < i→(Vbexai.breaks st.left way (m + 1) sp hold).isNone=false)
   ⟨⟨none,rfl⟩,S2,hC,fun m hm=>by omega⟩ ?_ ?_
  ·rintro i σ H3 hi ⟨⟨v4,rfl⟩,S3,hC3,hno⟩
   have e0:(1:Int) + (i:Int)=((i + 1:Nat):Int):=by omega
   rw [e0]
   obtain ⟨dxc,dc,lc,hx3,_⟩:=id hC3.ex
   have N3:=S3.seq hN
   refine ⟨_,rfl,x,dxc,_,rfl,hx3,rfl,_,rfl,_,rfl,nl,_,_,_,rfl,rfl,N3,rfl,_,rfl,nl,_,_,_,rfl,rfl,N3,rfl,x,st.left,way,i + 1,sp,hold,rfl,hC3,hwl,⟨by omega,by omega⟩,⟨by omega,by omega⟩,by omega,fun H4 S4=>⟨_,rfl,?_⟩⟩
   have S34:=S3.trans S4
   cases e:(Vbexai.breaks st.left way (i + 1) sp hold).isNone with
   |true=>
    rw [find_map_at (p:=fun n=>(Vbexai.breaks st.left way n sp hold).isNone) hi hno e] at k
    exact iteT ⟨_,rfl,(k.same S34).one (hG.same S34)⟩
   |false=>
    refine iteF ⟨⟨_,rfl⟩,S34,hC3.same S4,fun m hm=>?_⟩
    by_cases em:m=i
    ·subst em; exact e
    ·exact hno m (by omega)
  ·rintro σ H3 ⟨⟨v4,rfl⟩,S3,hC3,hno⟩
   rw [find_map_no (p:=fun n=>(Vbexai.breaks st.left way n sp hold).isNone) hno] at k
   exact (k.same S3).one (hG.same S3)
abbrev sA12:Stmt:=top 65
theorem scA12:FnScope ["glacier","numbers","way","crossing","spacing"] ["glacier","numbers","way"] (defScope sA12):=⟨rfl,rfl,rfl,by decide +kernel,rfl,by decide +kernel,by decide +kernel⟩
theorem ok_a12 {f f2 f3 C D:Addr} {fd fd2 fd3:FuncData} (F:Fun K "answer_spacing" "answer_spacing" sA12 f fd) (T:TxG K C) (B:Blt mg) (TC:TxC K D) (M:Mk K D f2) (gD:mg "Crossing"=some (.ref D)) (cM:Num mg "MOST_SPACING" 6) (cN:Num mg "NONE_THERE" (-9))
  (G2:FnOk P w K mg base CX0 3 f2 fd2 ["self","possible","way"] (spCi K D)) (b2:Binds K fd2 ["self","possible","way"] []) (m3:Mth P w K mg base D "is_safe" 3 ["self","members","spacing","hold"] (spSafe D) f3 fd3) :
  FnOk P w K mg base CX0 5 f fd ["glacier","numbers","way"] (spWay K C 12 1000):=by
 obtain ⟨uM,eM,rM⟩:=cM
 obtain ⟨uN,eN,rN⟩:=cN
 refine F.ok scA12 (fun vs H Q E h=>?_) (fun cdv A outer s H vs Q E hr h=>?_)
 ·obtain ⟨g,nl,wl,st,ns,p,c,rfl,_⟩:=h
  rfl
 ·obtain ⟨g,nl,wl,st,ns,p,c,rfl,hG,hN,hW,hdec,hrg,hlim,k⟩:=h
  obtain ⟨n,hold,rfl,rfl⟩:=dec12 hdec
  have nd:=scA12.nd
  have hr3:Room 3 _:=hr.mono (by decide)
  refine ⟨_,pss_cons (ps_set (i:=3) nd rfl (Or.inl rfl) (pe_make M G2 hr rfl gD b2 .nil pass0 (pa_cons (pe_fld (pv 0) rfl) (pa_cons (pv 2) pa_nil))))
   (pss_cons (ps_for PassesOwn.never rfl (pi_range2 rfl B.range (pa_cons pe_int (pa_cons (pe_op op_add (pe_glob rfl eM rM) pe_int) pa_nil))) (pg_name (i:=4) nd rfl (Or.inl rfl))
    (pss_one (ps_if (pt_val (pe_meth (pv 3) TC.cl m3.m m3.G hr3 m3.b .nil pass0 (pa_cons (pe_ix ix_list (pv 1) pe_int (fun _ _=>rfl)) (pa_cons (pv 4) (pa_cons (pe_ix ix_list (pv 1) pe_int (fun _ _=>rfl)) pa_nil))))) (pss_one (ps_ret (pe_lst (pa_cons (pv 4) pa_nil)))) pss_nil)))
   (pss_one (ps_ret (pe_lst (pa_cons (pe_glob rfl eN rN) pa_nil))))),?_⟩
  obtain ⟨dx,hl,pl,d,cn,hA⟩:=id hG
  have fo:=hA.ok.fo
  have hwh:=fo.wh
  have hrg':(Vbexai.within n 1 9 && (Vbexai.within hold 1 4 && Vbexai.wayOk st p))=true:=hrg
  rw [Bool.and_eq_true,Bool.and_eq_true] at hrg'
  obtain ⟨q1,q3,q4⟩:=hrg'
  obtain ⟨n,rfl,n1,n2⟩:=within_nat q1 (by decide)
  obtain ⟨hold,rfl,h1,h2⟩:=within_nat q3 (by decide)
  obtain ⟨way,rfl,hnat,hwl,hwc⟩:=way_nats fo q4
  rw [← ofs_ivs] at hW
  have hc1000:∀ c ∈ way,c≤1000:=fun c hc=>by have:=hwc c hc; omega
  have k:AnsK C H g (if Vbexai.ROPE < st.left.length then (st,[-8]) else (match ((List.range 6).map fun k=>k + 1).find? fun x=>(Vbexai.breaks st.left (Vbexai.nats (Vbexai.ints way)) n x hold).isNone with
   |none=>(st,[-9])
   |some x=>(st,[(x:Int)]))) Q:=k
  rw [hnat,if_neg (show ¬ Vbexai.ROPE < st.left.length from Nat.not_lt.mpr hlim)] at k
  refine ⟨_,rfl,g,C,dx,_,_,rfl,hA.at_,T.cl,T.nP,rfl,_,rfl,?_⟩
  intro x dx2 nx ndx nex
  have hxX:∀ {a:Addr} {xs:List V},SqL K H a xs→SqL K (upd (upd H dx2 (.own x)) x (.ins D dx2 [])) a xs:=fun h=>Same.seq (((Same.refl H).new ndx).up nx) h
  refine ⟨x,dx2,pl,wl,st.left,way,rfl,upd_same,hxX (SqL.of hA.pos),hxX hW,hwl,hc1000,hA.ok.left_len,fun H2 hC X2=>⟨rfl,?_⟩⟩
  have S2:Same H H2:=Same.made nx ndx X2
  refine ⟨_,_,rfl,rfl,_,_,rfl,⟨by decide,by decide,by decide,by decide⟩,?_⟩
  refine for_range (n:=6) (fun i σ H'=>(∃ v4:Option V,σ=[some (.ref g),some (.ref nl),some (.ref wl),some (.ref x),v4])∧Same H H'∧CrAt D H' x st.left way∧∀ m,m < i→(Vbexai.breaks st.left way n (m + 1) hold).isNone=false)
   ⟨⟨none,rfl⟩,S2,hC,fun m hm=>by omega⟩ ?_ ?_
  ·rintro i σ H3 hi ⟨⟨v4,rfl⟩,S3,hC3,hno⟩
   have e0:(1:Int) + (i:Int)=((i + 1:Nat):Int):=by omega
   rw [e0]
   obtain ⟨dxc,dc,lc,hx3,_⟩:=id hC3.ex
   have N3:=S3.seq hN
   refine ⟨_,rfl,x,dxc,_,rfl,hx3,rfl,_,rfl,nl,_,_,_,rfl,rfl,N3,rfl,_,rfl,_,rfl,nl,_,_,_,rfl,rfl,N3,rfl,x,st.left,way,n,i + 1,hold,rfl,hC3,hwl,⟨by omega,by omega⟩,⟨by omega,by omega⟩,by omega,fun H4 S4=>⟨_,rfl,?_⟩⟩
   have S34:=S3.trans S4
   cases e:(Vbexai.breaks st.left way n (i + 1) hold).isNone with
   |true=>
    rw [find_map_at (p:=fun x=>(Vbexai.breaks st.left way n x hold).isNone) hi hno e] at k
    exact iteT ⟨_,rfl,(k.same S34).one (hG.same S34)⟩
   |false=>
    refine iteF ⟨⟨_,rfl⟩,S34,hC3.same S4,fun m hm=>?_⟩
    by_cases em:m=i
    ·subst em; exact e
    ·exact hno m (by omega)
  ·rintro σ H3 ⟨⟨v4,rfl⟩,S3,hC3,hno⟩
   rw [find_map_no (p:=fun x=>(Vbexai.breaks st.left way n x hold).isNone) hno] at k
   exact (k.same S3).one (hG.same S3)
abbrev sA13:Stmt:=top 66
theorem scA13:FnScope ["glacier","numbers","way","cells"] ["glacier","numbers","way"] (defScope sA13):=⟨rfl,rfl,rfl,by decide +kernel,rfl,by decide +kernel,by decide +kernel⟩
theorem ok_a13 {f f1 f2 f3 C:Addr} {fd fd1 fd2 fd3:FuncData} (F:Fun K "answer_cover" "answer_cover" sA13 f fd) (T:TxG K C) (B:Blt mg) (cA:Num mg "NONE_AGREES" (-6)) (cN:Num mg "NONE_THERE" (-9))
  (c1:Cal P w K mg base "clear_fields" 2 ["possible","way"] (spCf K) f1 fd1) (m2:Mth P w K mg base C "cells_to_probe" 2 ["self"] (spCp C) f2 fd2) (c3:Cal P w K mg base "least_cover" 5 ["possible","cells","way"] (spLc K) f3 fd3) :
  FnOk P w K mg base CX0 6 f fd ["glacier","numbers","way"] (spWay K C 13 600):=by
 obtain ⟨uA,eA,rA⟩:=cA
 obtain ⟨uN,eN,rN⟩:=cN
 refine F.ok scA13 (fun vs H Q E h=>?_) (fun cdv A outer s H vs Q E hr h=>?_)
 ·obtain ⟨g,nl,wl,st,ns,p,c,rfl,_⟩:=h
  rfl
 ·obtain ⟨g,nl,wl,st,ns,p,c,rfl,hG,hN,hW,hdec,hrg,hlim,k⟩:=h
  obtain ⟨rfl,rfl⟩:=dec13 hdec
  have nd:=scA13.nd
  have hr2:Room 2 _:=hr.mono (by decide)
  refine ⟨_,pss_cons (ps_if (pt_cmpR op_eq (pe_callB call_len_seq rfl B.len PySem.boot_len (pa_cons (pe_call c1.G hr2 rfl c1.g c1.kp c1.b .nil pass0 (pa_cons (pe_fld (pv 0) rfl) (pa_cons (pv 2) pa_nil))) pa_nil)) pe_int (nomark _)) (pss_one (ps_ret (pe_lst (pa_cons (pe_glob rfl eA rA) pa_nil)))) pss_nil)
   (pss_cons (ps_set (i:=3) nd rfl (Or.inl rfl) (pe_call c3.G hr rfl c3.g c3.kp c3.b .nil pass0 (pa_cons (pe_fld (pv 0) rfl) (pa_cons (pe_meth0 (pv 0) T.cl m2.m m2.G hr2 m2.b .nil pass0) (pa_cons (pv 2) pa_nil)))))
   (pss_cons (ps_if (pt_cmp (pc_isN (pv 3))) (pss_one (ps_ret (pe_lst (pa_cons (pe_glob rfl eN rN) pa_nil)))) pss_nil)
   (pss_one (ps_ret (pe_op op_cat (pe_lst (pa_cons (pe_callB call_len_seq rfl B.len PySem.boot_len (pa_cons (pv 3) pa_nil)) pa_nil)) (pv 3)))))),?_⟩
  obtain ⟨dx,hl,pl,d,cn,hA⟩:=id hG
  have fo:=hA.ok.fo
  have hwh:=fo.wh
  obtain ⟨way,rfl,hnat,hwl,hwc⟩:=way_nats fo (show Vbexai.wayOk st p=true from hrg)
  rw [← ofs_ivs] at hW
  have hc1000:∀ c ∈ way,c≤1000:=fun c hc=>by have:=hwc c hc; omega
  have k:AnsK C H g (if Vbexai.COVER < st.left.length then (st,[-8]) else if (st.left.any fun x=>Vbexai.clear x (Vbexai.nats (Vbexai.ints way)))=false then (st,[-6]) else (match Vbexai.coverFrom st.left (Vbexai.nats (Vbexai.ints way)) (Vbexai.unfound st) 4 0 with
   |none=>(st,[-9])
   |some g=>(st,Vbexai.listed (Vbexai.ints g)))) Q:=k
  rw [hnat,if_neg (show ¬ Vbexai.COVER < st.left.length from Nat.not_lt.mpr hlim)] at k
  refine ⟨_,rfl,g,C,dx,_,_,rfl,hA.at_,T.cl,T.nP,rfl,_,rfl,pl,wl,st.left,way,rfl,SqL.of hA.pos,hW,hc1000,hA.ok.left_len,fun H1 q S1 nq hq=>?_⟩
  refine ⟨q,_,rfl,.inl (SqL.of hq),rfl,_,rfl,?_⟩
  rw [ofs_len,Rp.dec_int]
  have hA1:=hA.same S1
  refine ite2 (fun h1=>?_) (fun h1=>?_)
  ·have h0:(st.left.any fun x=>Vbexai.clear x way)=false:=by
    have hz:(st.left.filter fun x=>Vbexai.clear x way).length=0:=by
     have h2:=of_decide_eq_true h1
     have h3:((st.left.filter fun x=>Vbexai.clear x way).length:Int)=0:=h2
     omega
    rw [List.any_eq_false]
    exact fun x hx=>List.filter_eq_nil_iff.mp (List.length_eq_zero_iff.mp hz) x hx
   rw [if_pos h0] at k
   exact (k.same S1).one (hG.same S1)
  ·have h0:¬ (st.left.any fun x=>Vbexai.clear x way)=false:=fun z=>h1 (decide_eq_true (by
    have:(st.left.filter fun x=>Vbexai.clear x way)=[]:=List.filter_eq_nil_iff.mpr fun x hx=>(List.any_eq_false.mp z) x hx
    rw [this]; rfl))
   rw [if_neg h0] at k
   refine ⟨_,rfl,g,C,dx,_,_,rfl,hA1.at_,T.cl,T.nP,rfl,_,rfl,g,dx,_,rfl,hA1.at_,rfl,g,dx,hl,pl,d,cn,st,rfl,hA1,fun H2 u S2 nu hu=>?_⟩
   have S12:=S1.trans S2
   have hA2:=hA1.same S2
   have hul:=unfound_len st
   refine ⟨_,rfl,pl,u,wl,st.left,Vbexai.unfound st,way,st.form.w * st.form.h,rfl,SqL.of hA2.pos,SqL.of hu,S12.seq hW,hA.ok.ne,hlim,by omega,unfound_nd st,hwl,by omega,hA.ok.left_lt,fun H3 S3 e=>?_,fun H3 t r S3 nt ht hrl e=>?_⟩
   ·rw [e] at k
    have S123:=S12.trans S3
    exact ⟨_,rfl,_,rfl,iteT ((k.same S123).one (hG.same S123))⟩
   ·rw [e] at k
    have S123:=S12.trans S3
    rw [ofs_ivs] at ht
    have hil:(Vbexai.ints r).length≤3:=by unfold Vbexai.ints; rw [List.length_map]; exact hrl
    have qq:=AnsK.listed k S123.keep (hG.same S123) ht (by omega)
    refine ⟨_,rfl,_,rfl,iteF ?_⟩
    refine ⟨_,rfl,t,_,rfl,.inl (SqL.of ht),?_⟩
    rw [ivs_len]
    exact ⟨qq.1,fun t' ht'=>⟨_,rfl,qq.2 t' ht'⟩⟩
abbrev sA14:Stmt:=top 67
theorem scA14:FnScope ["glacier","numbers","way","plan"] ["glacier","numbers","way"] (defScope sA14):=⟨rfl,rfl,rfl,by decide +kernel,rfl,by decide +kernel,by decide +kernel⟩
theorem ok_a14 {m:Nat} {f f2 f3 C:Addr} {fd fd2 fd3:FuncData} (F:Fun K "answer_plan" "answer_plan" sA14 f fd) (T:TxG K C) (cN:Num mg "NONE_THERE" (-9)) (hm:2≤m)
  (m2:Mth P w K mg base C "cells_to_probe" 2 ["self"] (spCp C) f2 fd2) (c3:Cal P w K mg base "least_plan" m ["possible","cells","way"] (spLp K) f3 fd3) :
  FnOk P w K mg base CX0 (m + 1) f fd ["glacier","numbers","way"] (spWay K C 14 150):=by
 obtain ⟨uN,eN,rN⟩:=cN
 refine F.ok scA14 (fun vs H Q E h=>?_) (fun cdv A outer s H vs Q E hr h=>?_)
 ·obtain ⟨g,nl,wl,st,ns,p,c,rfl,_⟩:=h
  rfl
 ·obtain ⟨g,nl,wl,st,ns,p,c,rfl,hG,hN,hW,hdec,hrg,hlim,k⟩:=h
  obtain ⟨rfl,rfl⟩:=dec14 hdec
  have nd:=scA14.nd
  have hr2:Room 2 _:=hr.mono hm
  refine ⟨_,pss_cons (ps_set (i:=3) nd rfl (Or.inl rfl) (pe_call c3.G hr rfl c3.g c3.kp c3.b .nil pass0 (pa_cons (pe_fld (pv 0) rfl) (pa_cons (pe_meth0 (pv 0) T.cl m2.m m2.G hr2 m2.b .nil pass0) (pa_cons (pv 2) pa_nil)))))
   (pss_cons (ps_if (pt_cmp (pc_isN (pv 3))) (pss_one (ps_ret (pe_lst (pa_cons (pe_glob rfl eN rN) pa_nil)))) pss_nil)
   (pss_one (ps_ret (pv 3)))),?_⟩
  obtain ⟨dx,hl,pl,d,cn,hA⟩:=id hG
  have fo:=hA.ok.fo
  have hwh:=fo.wh
  obtain ⟨way,rfl,hnat,hwl,hwc⟩:=way_nats fo (show Vbexai.wayOk st p=true from hrg)
  rw [← ofs_ivs] at hW
  have k:AnsK C H g (if Vbexai.PLAN < st.left.length then (st,[-8]) else (match (List.range 4).find? fun k=>Vbexai.known (Vbexai.unfound st) (Vbexai.nats (Vbexai.ints way)) k st.left with
   |none=>(st,[-9])
   |some k=>(st,(k:Int)::(if k=0 then [] else match Vbexai.firstProbe (Vbexai.unfound st) (Vbexai.nats (Vbexai.ints way)) (k - 1) st.left with
    |some c=>[(c:Int)]
    |none=>[])))) Q:=k
  rw [hnat,if_neg (show ¬ Vbexai.PLAN < st.left.length from Nat.not_lt.mpr hlim)] at k
  refine ⟨_,rfl,g,C,dx,_,_,rfl,hA.at_,T.cl,T.nP,rfl,_,rfl,g,dx,_,rfl,hA.at_,rfl,g,dx,hl,pl,d,cn,st,rfl,hA,fun H2 u S2 nu hu=>?_⟩
  have hA2:=hA.same S2
  have hul:=unfound_len st
  refine ⟨_,rfl,pl,u,wl,st.left,Vbexai.unfound st,way,st.form.w * st.form.h,rfl,SqL.of hA2.pos,SqL.of hu,S2.seq hW,by omega,by omega,unfound_nd st,hwl,by omega,hA.ok.left_lt,fun H3 S3 e=>?_,fun H3 t r S3 nt ht e=>?_⟩
  ·have S23:=S2.trans S3
   unfold planL at e
   cases q:(List.range 4).find? (fun k=>Vbexai.known (Vbexai.unfound st) way k st.left) with
   |some z=>rw [q] at e; cases e
   |none=>
    rw [q] at k
    exact ⟨_,rfl,_,rfl,iteT ((k.same S23).one (hG.same S23))⟩
  ·have S23:=S2.trans S3
   unfold planL at e
   refine ⟨_,rfl,_,rfl,iteF ⟨_,rfl,?_⟩⟩
   cases q:(List.range 4).find? (fun k=>Vbexai.known (Vbexai.unfound st) way k st.left) with
   |none=>rw [q] at e; cases e
   |some z=>
    rw [q] at e k
    have e:=Option.some.inj e
    dsimp only at k
    subst e
    rw [ofs_ivs] at ht
    by_cases z0:z=0
    ·rw [if_pos z0] at k ht
     exact k H3 t S23.keep (S2.free nt) (hG.same S23) ht (by show 1≤100; decide)
    ·rw [if_neg z0] at k ht
     cases q2:Vbexai.firstProbe (Vbexai.unfound st) way (z - 1) st.left with
     |none=>
      rw [q2] at k ht
      exact k H3 t S23.keep (S2.free nt) (hG.same S23) ht (by show 1≤100; decide)
     |some c=>
      rw [q2] at k ht
      exact k H3 t S23.keep (S2.free nt) (hG.same S23) ht (by show 2≤100; decide)
end
end Rp
namespace Rp
open PySem PySem.Spec PyProof.Rows L2
def wayRow (op:Int):Option (List Int × Option Nat):=if op=9 then some ([],none) else if op=10 then some ([9,6,4],some 1000) else if op=11 then some ([6,4],some 1000) else if op=12 then some ([9,4],some 1000) else if op=13 then some ([],some 600) else if op=14 then some ([],some 150) else none
def limV:Option Nat→V
 |none=>.non
 |some n=>.int (n:Nat)
def limN:Option Nat→Nat
 |none=>100000
 |some n=>n
structure WT (P:Program) (w:World) (K:PySem.W.Frag) (mg:Str→Option Value) (base:Heap) (C:Addr) (aW:Addr) (kvs:List (Key × V)):Prop where
 g:mg "WAY_CALLS"=some (.ref aW)
 dk:DK P w K aW kvs
 no:∀ op,wayRow op=none→valV kvs (Sum.inl op)=none
 at_:∀ op his lim,wayRow op=some (his,lim)→∃ t h f,valV kvs (Sum.inl op)=some (.ref t)∧(∀ H,SqT K H t [.ref h,limV lim,.ref f])∧(∀ H,SqT K H h (ivs his))∧PySem.W.keepIn K (.ref f)=true∧
  ∃ k fd,FnOk P w K mg base CX0 k f fd ["glacier","numbers","way"] (spWay K C op (limN lim))∧k≤9∧Binds K fd ["glacier","numbers","way"] []
theorem way_cases {op:Int} {his:List Int} {lim:Option Nat} (h:wayRow op=some (his,lim)):(op=9∧his=[]∧lim=none)∨(op=10∧his=[9,6,4]∧lim=some 1000)∨(op=11∧his=[6,4]∧lim=some 1000)∨(op=12∧his=[9,4]∧lim=some 1000)∨(op=13∧his=[]∧lim=some 600)∨(op=14∧his=[]∧lim=some 150):=by
 unfold wayRow at h
 by_cases h1:op=9
 ·rw [if_pos h1] at h; cases h; exact .inl ⟨h1,rfl,rfl⟩
 rw [if_neg h1] at h
 by_cases h2:op=10
 ·rw [if_pos h2] at h; cases h; exact .inr (.inl ⟨h2,rfl,rfl⟩)
 rw [if_neg h2] at h
 by_cases h3:op=11
 ·rw [if_pos h3] at h; cases h; exact .inr (.inr (.inl ⟨h3,rfl,rfl⟩))
 rw [if_neg h3] at h
 by_cases h4:op=12
 ·rw [if_pos h4] at h; cases h; exact .inr (.inr (.inr (.inl ⟨h4,rfl,rfl⟩)))
 rw [if_neg h4] at h
 by_cases h5:op=13
 ·rw [if_pos h5] at h; cases h; exact .inr (.inr (.inr (.inr (.inl ⟨h5,rfl,rfl⟩))))
 rw [if_neg h5] at h
 by_cases h6:op=14
 ·rw [if_pos h6] at h; cases h; exact .inr (.inr (.inr (.inr (.inr ⟨h6,rfl,rfl⟩))))
 rw [if_neg h6] at h
 cases h
theorem ranged_way {op:Int} {his:List Int} {lim:Option Nat} {ns p:List Int} {c:Vbexai.Call} {st:Vbexai.St} (h:wayRow op=some (his,lim)) (hd:Vbexai.decode [op::ns,p]=some c):ns.length=his.length∧Vbexai.ranged st c=(wth (List.replicate his.length 1) ns his && Vbexai.wayOk st p):=by
 rcases way_cases h with ⟨rfl,rfl,rfl⟩ | ⟨rfl,rfl,rfl⟩ | ⟨rfl,rfl,rfl⟩ | ⟨rfl,rfl,rfl⟩ | ⟨rfl,rfl,rfl⟩ | ⟨rfl,rfl,rfl⟩
 ·obtain ⟨rfl,rfl⟩:=dec9 hd
  exact ⟨rfl,rfl⟩
 ·obtain ⟨a,b,d,rfl,rfl⟩:=dec10 hd
  refine ⟨rfl,?_⟩
  show (Vbexai.within a 1 9 && (Vbexai.within b 1 6 && (Vbexai.within d 1 4 && Vbexai.wayOk st p)))=(wth [1,1,1] [a,b,d] [9,6,4] && Vbexai.wayOk st p)
  unfold wth Vbexai.within
  simp only [List.zip_cons_cons,List.zip_nil_right,List.all_cons,List.all_nil,Bool.and_true,Bool.and_assoc]
 ·obtain ⟨a,b,rfl,rfl⟩:=dec11 hd
  refine ⟨rfl,?_⟩
  show (Vbexai.within a 1 6 && (Vbexai.within b 1 4 && Vbexai.wayOk st p))=(wth [1,1] [a,b] [6,4] && Vbexai.wayOk st p)
  unfold wth Vbexai.within
  simp only [List.zip_cons_cons,List.zip_nil_right,List.all_cons,List.all_nil,Bool.and_true,Bool.and_assoc]
 ·obtain ⟨a,b,rfl,rfl⟩:=dec12 hd
  refine ⟨rfl,?_⟩
  show (Vbexai.within a 1 9 && (Vbexai.within b 1 4 && Vbexai.wayOk st p))=(wth [1,1] [a,b] [9,4] && Vbexai.wayOk st p)
  unfold wth Vbexai.within
  simp only [List.zip_cons_cons,List.zip_nil_right,List.all_cons,List.all_nil,Bool.and_true,Bool.and_assoc]
 ·obtain ⟨rfl,rfl⟩:=dec13 hd
  exact ⟨rfl,rfl⟩
 ·obtain ⟨rfl,rfl⟩:=dec14 hd
  exact ⟨rfl,rfl⟩
theorem act_many {op:Int} {his:List Int} {L:Nat} {ns p:List Int} {c:Vbexai.Call} {st:Vbexai.St} (h:wayRow op=some (his,some L)) (hd:Vbexai.decode [op::ns,p]=some c) (hl:L < st.left.length):Vbexai.act st c=(st,[-8]):=by
 rcases way_cases h with ⟨rfl,rfl,z⟩ | ⟨rfl,rfl,z⟩ | ⟨rfl,rfl,z⟩ | ⟨rfl,rfl,z⟩ | ⟨rfl,rfl,z⟩ | ⟨rfl,rfl,z⟩
 ·cases z
 ·cases z
  obtain ⟨a,b,d,rfl,rfl⟩:=dec10 hd
  show (st,if Vbexai.ROPE < st.left.length then [-8] else _)=_
  rw [if_pos (show Vbexai.ROPE < st.left.length from hl)]
 ·cases z
  obtain ⟨a,b,rfl,rfl⟩:=dec11 hd
  show (if Vbexai.ROPE < st.left.length then (st,[-8]) else _)=_
  rw [if_pos (show Vbexai.ROPE < st.left.length from hl)]
 ·cases z
  obtain ⟨a,b,rfl,rfl⟩:=dec12 hd
  show (if Vbexai.ROPE < st.left.length then (st,[-8]) else _)=_
  rw [if_pos (show Vbexai.ROPE < st.left.length from hl)]
 ·cases z
  obtain ⟨rfl,rfl⟩:=dec13 hd
  show (if Vbexai.COVER < st.left.length then (st,[-8]) else _)=_
  rw [if_pos (show Vbexai.COVER < st.left.length from hl)]
 ·cases z
  obtain ⟨rfl,rfl⟩:=dec14 hd
  show (if Vbexai.PLAN < st.left.length then (st,[-8]) else _)=_
  rw [if_pos (show Vbexai.PLAN < st.left.length from hl)]
theorem rep_one (n:Nat):(List.replicate n [V.int 1]).flatten=ivs (List.replicate n 1):=by
 induction n with
 |zero=>rfl
 |succ n ih=>
  rw [List.replicate_succ,List.flatten_cons,ih,List.replicate_succ]
  rfl
section
variable {P:Program} {w:World} {K:PySem.W.Frag} {mg:Str→Option Value} {base:Heap}
abbrev sOw:Stmt:=top 73
def spOw (K:PySem.W.Frag) (C:Addr):Sp:=fun vs H Q _=>∃ (g nl wl:Addr) (st:Vbexai.St) (op:Int) (ns p:List Int) (c:Vbexai.Call) (his:List Int) (lim:Option Nat),vs=[.ref g,.int op,.ref nl,.ref wl]∧GlAt C H g st∧SqL K H nl (ivs ns)∧SqL K H wl (ivs p)∧p.length≤1000∧wayRow op=some (his,lim)∧Vbexai.decode [op::ns,p]=some c∧AnsK C H g (Vbexai.step st c) Q
theorem scOw:FnScope ["glacier","call","numbers","way","highs","limit","action"] ["glacier","call","numbers","way"] (defScope sOw):=⟨rfl,rfl,rfl,by decide +kernel,rfl,by decide +kernel,by decide +kernel⟩
theorem ok_ow {f f1 f2 C aW:Addr} {kvs:List (Key × V)} {fd fd1 fd2:FuncData} (F:Fun K "answer_on_way" "answer_on_way" sOw f fd) (T:TxG K C) (B:Blt mg) (W:WT P w K mg base C aW kvs) (cO:Num mg "OUT_OF_RANGE" (-1)) (cT:Num mg "TOO_MANY" (-8))
  (c1:Cal P w K mg base "within" 1 ["lows","numbers","highs"] (spWi K) f1 fd1) (c2:Cal P w K mg base "is_way" 3 ["width","height","cells"] (spIw K) f2 fd2) :
  FnOk P w K mg base CX0 10 f fd ["glacier","call","numbers","way"] (spOw K C):=by
 obtain ⟨uO,eO,rO⟩:=cO
 obtain ⟨uT,eT,rT⟩:=cT
 refine F.ok scOw (fun vs H Q E h=>?_) (fun cdv A outer s H vs Q E hr h=>?_)
 ·obtain ⟨g,nl,wl,st,op,ns,p,c,his,lim,rfl,_⟩:=h
  rfl
 ·obtain ⟨g,nl,wl,st,op,ns,p,c,his,lim,rfl,hG,hN,hW,hpl,hrow,hdec,k⟩:=h
  have nd:=scOw.nd
  have hr1:Room 1 _:=hr.mono (by decide)
  have hr3:Room 3 _:=hr.mono (by decide)
  obtain ⟨t,hh,fa,hv,hT,hH,kpa,ka,fda,Ga,hka,ba⟩:=W.at_ op his lim hrow
  have hra:Room ka _:=hr.mono hka
  refine ⟨_,pss_cons (ps_set (i:=4) nd rfl (Or.inl rfl) (pe_ix ix_tup (pe_dgetG (pe_glob (v:=.ref aW) rfl W.g rfl) (pv 1) (fun _ _=>rfl)) pe_int (fun _ _=>rfl)))
   (pss_cons (ps_set (i:=5) nd rfl (Or.inl rfl) (pe_ix ix_tup (pe_dgetG (pe_glob (v:=.ref aW) rfl W.g rfl) (pv 1) (fun _ _=>rfl)) pe_int (fun _ _=>rfl)))
   (pss_cons (ps_set (i:=6) nd rfl (Or.inl rfl) (pe_ix ix_tup (pe_dgetG (pe_glob (v:=.ref aW) rfl W.g rfl) (pv 1) (fun _ _=>rfl)) pe_int (fun _ _=>rfl)))
   (pss_cons (ps_if (PW.pt (pw_or (pt_not (pt_val (pe_call c1.G hr1 rfl c1.g c1.kp c1.b .nil pass0 (pa_cons (pe_op op_rep (pe_lst (pa_cons pe_int pa_nil)) (pe_callB call_len_seq rfl B.len PySem.boot_len (pa_cons (pv 4) pa_nil))) (pa_cons (pv 2) (pa_cons (pv 4) pa_nil))))))
    (pw_or1 (pt_not (pt_val (pe_call c2.G hr3 rfl c2.g c2.kp c2.b .nil pass0 (pa_cons (pe_fld (pv 0) rfl) (pa_cons (pe_fld (pv 0) rfl) (pa_cons (pv 3) pa_nil))))))))) (pss_one (ps_ret (pe_lst (pa_cons (pe_glob rfl eO rO) pa_nil)))) pss_nil)
   (pss_cons (ps_if (PW.pt (pw_and (pt_cmp (pc_notN (pv 5))) (pw_and1 (pt_cmpR op_gt (pe_callB call_len_seq rfl B.len PySem.boot_len (pa_cons (pe_fld (pv 0) rfl) pa_nil)) (pv 5) (nomark _))))) (pss_one (ps_ret (pe_lst (pa_cons (pe_glob rfl eT rT) pa_nil)))) pss_nil)
   (pss_one (ps_ret (pe_callV (i:=6) (n:=3) rfl (Or.inl rfl) (pa_cons (pv 0) (pa_cons (pv 2) (pa_cons (pv 3) pa_nil)))))))))),?_⟩
  obtain ⟨dx,hl,pl,d,cn,hA⟩:=id hG
  have fo:=hA.ok.fo
  obtain ⟨hnl,hrang⟩:=ranged_way (st:=st) hrow hdec
  have hhl:his.length≤3:=by
   rcases way_cases hrow with ⟨_,rfl,_⟩ | ⟨_,rfl,_⟩ | ⟨_,rfl,_⟩ | ⟨_,rfl,_⟩ | ⟨_,rfl,_⟩ | ⟨_,rfl,_⟩ <;> decide
  refine ⟨_,rfl,aW,kvs,Sum.inl op,_,rfl,rfl,W.dk,hv,t,_,_,_,rfl,rfl,hT _,rfl,?_⟩
  refine ⟨_,rfl,aW,kvs,Sum.inl op,_,rfl,rfl,W.dk,hv,t,_,_,_,rfl,rfl,hT _,rfl,?_⟩
  refine ⟨_,rfl,aW,kvs,Sum.inl op,_,rfl,rfl,W.dk,hv,t,_,_,_,rfl,rfl,hT _,rfl,?_⟩
  refine ⟨(by show 1≤sizeLine; decide),fun q hq=>⟨_,rfl,hh,_,rfl,.inr (hH _),?_⟩⟩
  rw [ivs_len]
  refine ⟨q,_,_,rfl,rfl,upd_same,by omega,by omega,(by show 1 * (his.length:Int).toNat≤sizeLine; rw [Int.toNat_natCast]; have:=nsize (n:=1 * his.length) (by omega); omega),fun l1 hl1=>?_⟩
  rw [Int.toNat_natCast,rep_one]
  have S1:Same H (upd H q (.lst [.int 1])):=(Same.refl H).new hq
  have S2:=S1.new (o:=.lst (ivs (List.replicate his.length 1))) hl1
  refine ⟨_,rfl,_,rfl,false,l1,nl,hh,List.replicate his.length 1,ns,his,rfl,(show SqL _ _ _ _ from SqL.of upd_same),S2.seq hN,hH _,by rw [List.length_replicate,hnl],hnl.symm,by omega,fun H3 S3=>⟨_,rfl,?_⟩⟩
  have S23:=S2.trans S3
  have no:∀ {H4:Hp},Same H H4→Vbexai.ranged st c=false→1≤sizeLine∧∀ l,H4 l=none→Q (.ref l) (upd H4 l (.lst [.int (-1)])):=fun {H4} S4 z=>by
   rw [refused z] at k
   exact (k.same S4).one (hG.same S4)
  cases e1:wth (List.replicate his.length 1) ns his with
  |false=>exact iteT (iteT (no S23 (by rw [hrang,e1]; rfl)))
  |true=>
   refine iteF ?_
   have hA3:=hA.same S23
   refine ⟨_,rfl,g,C,dx,_,_,rfl,hA3.at_,T.cl,T.nW,rfl,_,rfl,g,C,dx,_,_,rfl,hA3.at_,T.cl,T.nH,rfl,_,rfl,st,wl,p,rfl,fo,S23.seq hW,hpl,fun H4 S4=>⟨_,rfl,?_⟩⟩
   have S234:=S23.trans S4
   cases e2:Vbexai.wayOk st p with
   |false=>exact iteT (no S234 (by rw [hrang,e1,e2]; rfl))
   |true=>
    refine iteF ?_
    have hrg:Vbexai.ranged st c=true:=by rw [hrang,e1,e2]; rfl
    rw [acted hrg] at k
    have hA4:=hA.same S234
    have go:st.left.length≤limN lim→∃ (f:Addr) (sp:Sp),(([some (.ref g),some (.int op),some (.ref nl),some (.ref wl),some (.ref hh),some (limV lim),some (.ref fa)]:List (Option V)))[6]?=some (some (.ref f))∧Callee (cxOf CX0 P w K mg base ["glacier","call","numbers","way","highs","limit","action"] "answer_on_way" (defScope sOw) _ cdv A outer s H E).nox f 3 sp∧sp [.ref g,.ref nl,.ref wl] H4 Q E0:=fun hlim=>
     ⟨fa,spWay K C op (limN lim),rfl,⟨⟨ka,fda,_,Ga,hra,ba,rfl⟩,kpa⟩,g,nl,wl,st,ns,p,c,rfl,hG.same S234,S234.seq hN,S234.seq hW,hdec,hrg,hlim,k.same S234⟩
    cases lim with
    |none=>
     refine ⟨_,rfl,_,rfl,iteF (iteF ?_)⟩
     obtain ⟨f',sp,g1,g2,g3⟩:=go hA.ok.left_len
     exact ⟨f',sp,g1,g2,_,rfl,_,rfl,_,rfl,g3⟩
    |some L=>
     refine ⟨_,rfl,_,rfl,iteT ?_⟩
     refine ⟨_,rfl,g,C,dx,_,_,rfl,hA4.at_,T.cl,T.nP,rfl,pl,_,rfl,.inl (SqL.of hA4.pos),_,rfl,_,_,rfl,rfl,_,rfl,?_⟩
     rw [ofs_len]
     refine ite2 (fun h1=>?_) (fun h1=>?_)
     ·have h1':L < st.left.length:=by have:=of_decide_eq_true h1; omega
      rw [act_many hrow hdec h1'] at k
      exact (k.same S234).one (hG.same S234)
     ·have h1':st.left.length≤L:=Nat.le_of_not_lt fun z=>h1 (decide_eq_true (by omega))
      obtain ⟨f',sp,g1,g2,g3⟩:=go h1'
      exact ⟨f',sp,g1,g2,_,rfl,_,rfl,_,rfl,g3⟩
end
end Rp
namespace Rp
open PySem PySem.Spec PyProof.Rows L2
def plainRow (op:Int):Option Nat:=if op=0 then some 5 else if op=1 then some 2 else if op=2 then some 1 else if op=3 then some 0 else if op=4 then some 0 else if op=5 then some 1 else if op=6 then some 0 else if op=7 then some 1 else if op=8 then some 2 else if op=15 then some 0 else if op=16 then some 2 else if op=17 then some 0 else none
theorem shape_cases {p:Int} {n k:Nat} (h:PyVbexai.shape p=some (n,k)):(k=0∧plainRow p=some n∧wayRow p=none)∨(k=1∧∃ his lim,wayRow p=some (his,lim)∧his.length=n):=by
 unfold PyVbexai.shape at h
 by_cases h0:p=0
 ·rw [if_pos h0] at h; cases h; subst h0; exact .inl ⟨rfl,rfl,rfl⟩
 rw [if_neg h0] at h
 by_cases h1:p=1
 ·rw [if_pos h1] at h; cases h; subst h1; exact .inl ⟨rfl,rfl,rfl⟩
 rw [if_neg h1] at h
 by_cases h2:p=2
 ·rw [if_pos h2] at h; cases h; subst h2; exact .inl ⟨rfl,rfl,rfl⟩
 rw [if_neg h2] at h
 by_cases h3:p=3
 ·rw [if_pos h3] at h; cases h; subst h3; exact .inl ⟨rfl,rfl,rfl⟩
 rw [if_neg h3] at h
 by_cases h4:p=4
 ·rw [if_pos h4] at h; cases h; subst h4; exact .inl ⟨rfl,rfl,rfl⟩
 rw [if_neg h4] at h
 by_cases h5:p=5
 ·rw [if_pos h5] at h; cases h; subst h5; exact .inl ⟨rfl,rfl,rfl⟩
 rw [if_neg h5] at h
 by_cases h6:p=6
 ·rw [if_pos h6] at h; cases h; subst h6; exact .inl ⟨rfl,rfl,rfl⟩
 rw [if_neg h6] at h
 by_cases h7:p=7
 ·rw [if_pos h7] at h; cases h; subst h7; exact .inl ⟨rfl,rfl,rfl⟩
 rw [if_neg h7] at h
 by_cases h8:p=8
 ·rw [if_pos h8] at h; cases h; subst h8; exact .inl ⟨rfl,rfl,rfl⟩
 rw [if_neg h8] at h
 by_cases h9:p=9
 ·rw [if_pos h9] at h; cases h; subst h9; exact .inr ⟨rfl,_,_,rfl,rfl⟩
 rw [if_neg h9] at h
 by_cases h10:p=10
 ·rw [if_pos h10] at h; cases h; subst h10; exact .inr ⟨rfl,_,_,rfl,rfl⟩
 rw [if_neg h10] at h
 by_cases h11:p=11
 ·rw [if_pos h11] at h; cases h; subst h11; exact .inr ⟨rfl,_,_,rfl,rfl⟩
 rw [if_neg h11] at h
 by_cases h12:p=12
 ·rw [if_pos h12] at h; cases h; subst h12; exact .inr ⟨rfl,_,_,rfl,rfl⟩
 rw [if_neg h12] at h
 by_cases h13:p=13
 ·rw [if_pos h13] at h; cases h; subst h13; exact .inr ⟨rfl,_,_,rfl,rfl⟩
 rw [if_neg h13] at h
 by_cases h14:p=14
 ·rw [if_pos h14] at h; cases h; subst h14; exact .inr ⟨rfl,_,_,rfl,rfl⟩
 rw [if_neg h14] at h
 by_cases h15:p=15
 ·rw [if_pos h15] at h; cases h; subst h15; exact .inl ⟨rfl,rfl,rfl⟩
 rw [if_neg h15] at h
 by_cases h16:p=16
 ·rw [if_pos h16] at h; cases h; subst h16; exact .inl ⟨rfl,rfl,rfl⟩
 rw [if_neg h16] at h
 by_cases h17:p=17
 ·rw [if_pos h17] at h; cases h; subst h17; exact .inl ⟨rfl,rfl,rfl⟩
 rw [if_neg h17] at h
 cases h
theorem calls_step {p:Int} {r:List Int} {f:Nat} {cs:List (List (List Int))} (h:PyFlat.calls PyVbexai.shape (f + 1) (p::r)=some cs):∃ n k xs t cs',PyVbexai.shape p=some (n,k)∧n≤r.length∧PyFlat.rows k (r.drop n)=some (xs,t)∧PyFlat.calls PyVbexai.shape f t=some cs'∧cs=((p::r.take n)::xs)::cs':=by
 unfold PyFlat.calls at h
 cases e:PyFlat.call PyVbexai.shape (p::r) with
 |none=>rw [e] at h; cases h
 |some ct=>
  obtain ⟨c,t⟩:=ct
  rw [e] at h
  dsimp only at h
  cases e2:PyFlat.calls PyVbexai.shape f t with
  |none=>rw [e2] at h; cases h
  |some cs'=>
   rw [e2] at h
   cases h
   unfold PyFlat.call at e
   dsimp only at e
   cases e3:PyVbexai.shape p with
   |none=>rw [e3] at e; cases e
   |some nk=>
    obtain ⟨n,k⟩:=nk
    rw [e3] at e
    dsimp only at e
    by_cases hn:r.length < n
    ·rw [if_pos hn] at e; cases e
    ·rw [if_neg hn] at e
     cases e4:PyFlat.rows k (r.drop n) with
     |none=>rw [e4] at e; cases e
     |some xt=>
      obtain ⟨xs,t'⟩:=xt
      rw [e4] at e
      cases e
      exact ⟨n,k,xs,t,cs',rfl,by omega,e4,e2,rfl⟩
theorem rows0 {r:List Int} {xs:List (List Int)} {t:List Int} (h:PyFlat.rows 0 r=some (xs,t)):xs=[]∧t=r:=by
 cases h
 exact ⟨rfl,rfl⟩
theorem rows1 {r:List Int} {xs:List (List Int)} {t:List Int} (h:PyFlat.rows 1 r=some (xs,t)):∃ (m:Nat) (s:List Int),r=(m:Int)::s∧m≤s.length∧xs=[s.take m]∧t=s.drop m:=by
 unfold PyFlat.rows at h
 cases r with
 |nil=>cases h
 |cons m s=>
  unfold PyFlat.row at h
  dsimp only at h
  by_cases q:0≤m∧m.toNat≤s.length
  ·rw [if_pos q] at h
   dsimp only at h
   unfold PyFlat.rows at h
   cases h
   exact ⟨m.toNat,s,by rw [Int.toNat_of_nonneg q.1],q.2,rfl,rfl⟩
  ·rw [if_neg q] at h
   cases h
theorem rows_len {k:Nat} {r:List Int} {xs:List (List Int)} {t:List Int} (h:PyFlat.rows k r=some (xs,t)):xs.length=k:=by
 induction k generalizing r xs t with
 |zero=>cases h; rfl
 |succ k ih=>
  unfold PyFlat.rows at h
  cases e:PyFlat.row r with
  |none=>rw [e] at h; cases h
  |some x=>
   rw [e] at h
   dsimp only at h
   cases e2:PyFlat.rows k x.2 with
   |none=>rw [e2] at h; cases h
   |some y=>
    rw [e2] at h
    cases h
    exact congrArg (· + 1) (ih e2)
theorem row_of {p:Int} {r:List Int} {n k:Nat} {xs:List (List Int)} {t:List Int} (hs:PyVbexai.shape p=some (n,k)) (hn:n≤r.length) (h:PyFlat.rows k (r.drop n)=some (xs,t)):PyVbexai.shape p=some ((r.take n).length,xs.length):=by
 rw [rows_len h,List.length_take,Nat.min_eq_left hn]
 exact hs
theorem n0 {α:Type} {l:List α} (h:l.length=0):l=[]:=List.length_eq_zero_iff.mp h
theorem n1 {α:Type} {l:List α} (h:l.length=1):∃ a,l=[a]:=List.length_eq_one_iff.mp h
theorem n2 {α:Type} {l:List α} (h:l.length=2):∃ a b,l=[a,b]:=by
 cases l with
 |nil=>cases h
 |cons a l=>obtain ⟨b,rfl⟩:=n1 (Nat.succ.inj h); exact ⟨a,b,rfl⟩
theorem n3 {α:Type} {l:List α} (h:l.length=3):∃ a b c,l=[a,b,c]:=by
 cases l with
 |nil=>cases h
 |cons a l=>obtain ⟨b,c,rfl⟩:=n2 (Nat.succ.inj h); exact ⟨a,b,c,rfl⟩
theorem n5 {α:Type} {l:List α} (h:l.length=5):∃ a b c d e,l=[a,b,c,d,e]:=by
 cases l with
 |nil=>cases h
 |cons a l=>
  cases l with
  |nil=>cases h
  |cons b l=>obtain ⟨c,d,e,rfl⟩:=n3 (Nat.succ.inj (Nat.succ.inj h)); exact ⟨a,b,c,d,e,rfl⟩
def RowOk (c:List (List Int)):Prop:=PyVbexai.whole c=c∧(∃ d,Vbexai.decode c=some d)∧∀ q x,c=[q,x]→VbexaiNeutral.asked1 c=true→x.length≤16
theorem a2 {a b:Bool} (h:(a && b)=true):b=true:=(Bool.and_eq_true_iff.mp h).2
theorem ro0 {c:List Int} (h:PyVbexai.whole [c]=[c]) (d:∃ d,Vbexai.decode [c]=some d):RowOk [c]:=⟨h,d,fun q x e=>by cases e⟩
theorem ro1 {q x:List Int} (h:PyVbexai.whole [q,x]=[q,x]) (d:∃ d,Vbexai.decode [q,x]=some d) (k:VbexaiNeutral.asked1 [q,x]=true→decide (x.length≤16)=true):RowOk [q,x]:=⟨h,d,fun q' x' e a=>by
 cases e
 exact of_decide_eq_true (k a)⟩
theorem row_ok {p:Int} {ns:List Int} {ws:List (List Int)} (h:PyVbexai.shape p=some (ns.length,ws.length)):RowOk ((p::ns)::ws):=by
 unfold PyVbexai.shape at h
 by_cases h0:p=0
 ·rw [if_pos h0] at h
  subst h0
  have e:=Prod.mk.inj (Option.some.inj h)
  obtain ⟨_,_,_,_,_,rfl⟩:=n5 e.1.symm
  obtain rfl:=n0 e.2.symm
  exact ro0 rfl ⟨_,rfl⟩
 rw [if_neg h0] at h
 by_cases h1:p=1
 ·rw [if_pos h1] at h
  subst h1
  have e:=Prod.mk.inj (Option.some.inj h)
  obtain ⟨_,_,rfl⟩:=n2 e.1.symm
  obtain rfl:=n0 e.2.symm
  exact ro0 rfl ⟨_,rfl⟩
 rw [if_neg h1] at h
 by_cases h2:p=2
 ·rw [if_pos h2] at h
  subst h2
  have e:=Prod.mk.inj (Option.some.inj h)
  obtain ⟨_,rfl⟩:=n1 e.1.symm
  obtain rfl:=n0 e.2.symm
  exact ro0 rfl ⟨_,rfl⟩
 rw [if_neg h2] at h
 by_cases h3:p=3
 ·rw [if_pos h3] at h
  subst h3
  have e:=Prod.mk.inj (Option.some.inj h)
  obtain rfl:=n0 e.1.symm
  obtain rfl:=n0 e.2.symm
  exact ro0 rfl ⟨_,rfl⟩
 rw [if_neg h3] at h
 by_cases h4:p=4
 ·rw [if_pos h4] at h
  subst h4
  have e:=Prod.mk.inj (Option.some.inj h)
  obtain rfl:=n0 e.1.symm
  obtain rfl:=n0 e.2.symm
  exact ro0 rfl ⟨_,rfl⟩
 rw [if_neg h4] at h
 by_cases h5:p=5
 ·rw [if_pos h5] at h
  subst h5
  have e:=Prod.mk.inj (Option.some.inj h)
  obtain ⟨_,rfl⟩:=n1 e.1.symm
  obtain rfl:=n0 e.2.symm
  exact ro0 rfl ⟨_,rfl⟩
 rw [if_neg h5] at h
 by_cases h6:p=6
 ·rw [if_pos h6] at h
  subst h6
  have e:=Prod.mk.inj (Option.some.inj h)
  obtain rfl:=n0 e.1.symm
  obtain rfl:=n0 e.2.symm
  exact ro0 rfl ⟨_,rfl⟩
 rw [if_neg h6] at h
 by_cases h7:p=7
 ·rw [if_pos h7] at h
  subst h7
  have e:=Prod.mk.inj (Option.some.inj h)
  obtain ⟨_,rfl⟩:=n1 e.1.symm
  obtain rfl:=n0 e.2.symm
  exact ro0 rfl ⟨_,rfl⟩
 rw [if_neg h7] at h
 by_cases h8:p=8
 ·rw [if_pos h8] at h
  subst h8
  have e:=Prod.mk.inj (Option.some.inj h)
  obtain ⟨_,_,rfl⟩:=n2 e.1.symm
  obtain rfl:=n0 e.2.symm
  exact ro0 rfl ⟨_,rfl⟩
 rw [if_neg h8] at h
 by_cases h9:p=9
 ·rw [if_pos h9] at h
  subst h9
  have e:=Prod.mk.inj (Option.some.inj h)
  obtain rfl:=n0 e.1.symm
  obtain ⟨_,rfl⟩:=n1 e.2.symm
  exact ro1 rfl ⟨_,rfl⟩ fun h=>a2 h
 rw [if_neg h9] at h
 by_cases h10:p=10
 ·rw [if_pos h10] at h
  subst h10
  have e:=Prod.mk.inj (Option.some.inj h)
  obtain ⟨_,_,_,rfl⟩:=n3 e.1.symm
  obtain ⟨_,rfl⟩:=n1 e.2.symm
  exact ro1 rfl ⟨_,rfl⟩ fun h=>a2 (a2 (a2 (a2 h)))
 rw [if_neg h10] at h
 by_cases h11:p=11
 ·rw [if_pos h11] at h
  subst h11
  have e:=Prod.mk.inj (Option.some.inj h)
  obtain ⟨_,_,rfl⟩:=n2 e.1.symm
  obtain ⟨_,rfl⟩:=n1 e.2.symm
  exact ro1 rfl ⟨_,rfl⟩ fun h=>a2 (a2 (a2 h))
 rw [if_neg h11] at h
 by_cases h12:p=12
 ·rw [if_pos h12] at h
  subst h12
  have e:=Prod.mk.inj (Option.some.inj h)
  obtain ⟨_,_,rfl⟩:=n2 e.1.symm
  obtain ⟨_,rfl⟩:=n1 e.2.symm
  exact ro1 rfl ⟨_,rfl⟩ fun h=>a2 (a2 (a2 h))
 rw [if_neg h12] at h
 by_cases h13:p=13
 ·rw [if_pos h13] at h
  subst h13
  have e:=Prod.mk.inj (Option.some.inj h)
  obtain rfl:=n0 e.1.symm
  obtain ⟨_,rfl⟩:=n1 e.2.symm
  exact ro1 rfl ⟨_,rfl⟩ fun h=>a2 h
 rw [if_neg h13] at h
 by_cases h14:p=14
 ·rw [if_pos h14] at h
  subst h14
  have e:=Prod.mk.inj (Option.some.inj h)
  obtain rfl:=n0 e.1.symm
  obtain ⟨_,rfl⟩:=n1 e.2.symm
  exact ro1 rfl ⟨_,rfl⟩ fun h=>a2 h
 rw [if_neg h14] at h
 by_cases h15:p=15
 ·rw [if_pos h15] at h
  subst h15
  have e:=Prod.mk.inj (Option.some.inj h)
  obtain rfl:=n0 e.1.symm
  obtain rfl:=n0 e.2.symm
  exact ro0 rfl ⟨_,rfl⟩
 rw [if_neg h15] at h
 by_cases h16:p=16
 ·rw [if_pos h16] at h
  subst h16
  have e:=Prod.mk.inj (Option.some.inj h)
  obtain ⟨_,_,rfl⟩:=n2 e.1.symm
  obtain rfl:=n0 e.2.symm
  exact ro0 rfl ⟨_,rfl⟩
 rw [if_neg h16] at h
 by_cases h17:p=17
 ·rw [if_pos h17] at h
  subst h17
  have e:=Prod.mk.inj (Option.some.inj h)
  obtain rfl:=n0 e.1.symm
  obtain rfl:=n0 e.2.symm
  exact ro0 rfl ⟨_,rfl⟩
 rw [if_neg h17] at h
 cases h
theorem whole_calls {f:Nat} {l:List Int} {cs:List (List (List Int))} (h:PyFlat.calls PyVbexai.shape f l=some cs):cs.map PyVbexai.whole=cs:=by
 induction f generalizing l cs with
 |zero=>cases l <;> cases h; rfl
 |succ f ih=>
  cases l with
  |nil=>cases h; rfl
  |cons p r=>
   obtain ⟨n,k,xs,t,cs',hs,hn,hr,hc,rfl⟩:=calls_step h
   rw [List.map_cons,(row_ok (row_of hs hn hr)).1,ih hc]
theorem calls_eq (l:List Int):PyVbexai.calls l=PyFlat.calls PyVbexai.shape l.length l:=by
 unfold PyVbexai.calls
 cases e:PyFlat.calls PyVbexai.shape l.length l with
 |none=>rfl
 |some cs=>exact congrArg some (whole_calls e)
theorem cut_ivs {l:List Int} {a b:Nat} (hab:a≤b) (hb:b≤l.length):cutV (ivs l) (some (a:Int)) (some (b:Int))=ivs ((l.drop a).take (b - a)):=by
 unfold cutV
 rw [HT.sIx_nat,HT.sIx_nat,ivs_len,Nat.min_eq_left hb,Nat.min_eq_left (by omega)]
 unfold ivs
 rw [← List.map_drop,← List.map_take]
theorem played_cons (st:Vbexai.St) (c:List (List Int)) (cs:List (List (List Int))) {d:Vbexai.Call} (h:Vbexai.decode c=some d):PyFlat.told (PyFlat.played VbexaiNeutral.step st (c::cs))=(((Vbexai.step st d).2.length:Int)::(Vbexai.step st d).2) ++ PyFlat.told (PyFlat.played VbexaiNeutral.step (Vbexai.step st d).1 cs):=by
 have e:VbexaiNeutral.step st c=Vbexai.step st d:=by
  unfold VbexaiNeutral.step Vbexai.stepRows
  rw [h]
 show PyFlat.told ((VbexaiNeutral.step st c).2::PyFlat.played VbexaiNeutral.step (VbexaiNeutral.step st c).1 cs)=_
 rw [e]
 rfl
def Apart (C:Addr) (H:Hp) (g t:Addr) (st:Vbexai.St):Prop:=∃ dx hl pl d cn,GlA C H g dx hl pl d cn st∧t ≠ g∧t ≠ d∧t ≠ hl∧t ≠ pl∧cn ≠ .ref t
theorem Apart.upd {C:Addr} {H:Hp} {g t:Addr} {st:Vbexai.St} (h:Apart C H g t st) (o:HO):Apart C (L2.upd H t o) g t st:=by
 obtain ⟨dx,hl,pl,d,cn,hA,n1,n2,n3,n4,n5⟩:=h
 refine ⟨dx,hl,pl,d,cn,⟨?_,?_,?_,?_,?_,hA.ok⟩,n1,n2,n3,n4,n5⟩
 ·rw [upd_ne (fun z=>n1 z.symm)]; exact hA.at_
 ·rw [upd_ne (fun z=>n3 z.symm)]; exact hA.hid
 ·rw [upd_ne (fun z=>n4 z.symm)]; exact hA.pos
 ·rcases hA.cnt with e | ⟨c,e,q⟩
  ·exact .inl e
  ·exact .inr ⟨c,e,by rw [upd_ne (fun z=>n5 (by rw [e,z]))]; exact q⟩
 ·rw [upd_ne (fun z=>n2 z.symm)]; exact hA.fin
theorem Apart.at {C:Addr} {H:Hp} {g t:Addr} {st:Vbexai.St} (h:Apart C H g t st):GlAt C H g st:=by
 obtain ⟨dx,hl,pl,d,cn,hA,_⟩:=h
 exact ⟨dx,hl,pl,d,cn,hA⟩
theorem Apart.of_frz {C:Addr} {H:Hp} {g t:Addr} {st:Vbexai.St} {od:Obj} {u:HO} (h:GlAt C H g st) (ht:H t=some (.frz od u)):Apart C H g t st:=by
 obtain ⟨dx,hl,pl,d,cn,hA⟩:=h
 refine ⟨dx,hl,pl,d,cn,hA,ne_of ht hA.at_ (by intro z; cases z),ne_of ht hA.fin (by intro z; cases z),ne_of ht hA.hid (by intro z; cases z),ne_of ht hA.pos (by intro z; cases z),fun z=>?_⟩
 rcases hA.cnt with e | ⟨c,e,q⟩
 ·rw [e] at z; cases z
 ·rw [e] at z
  cases z
  rw [ht] at q
  cases q
theorem Apart.of_new {C:Addr} {H:Hp} {g t:Addr} {st:Vbexai.St} (h:GlAt C H g st) (ht:H t=Option.none):Apart C H g t st:=by
 obtain ⟨dx,hl,pl,d,cn,hA⟩:=h
 have ne:∀ {b:Addr} {o:HO},H b=some o→t ≠ b:=fun e z=>by rw [← z,ht] at e; cases e
 refine ⟨dx,hl,pl,d,cn,hA,ne hA.at_,ne hA.fin,ne hA.hid,ne hA.pos,fun z=>?_⟩
 rcases hA.cnt with e | ⟨c,e,q⟩
 ·rw [e] at z; cases z
 ·rw [e] at z
  cases z
  rw [ht] at q
  cases q
theorem Keep.up {H H':Hp} {t:Addr} {o:HO} (k:Keep H H') (ht:H t=Option.none):Keep H (upd H' t o):=⟨fun b x e n1 n2=>by
 rw [upd_ne (ne_of_none e ht)]; exact k.1 b x e n1 n2,k.live⟩
structure CT (P:Program) (w:World) (K:PySem.W.Frag) (mg:Str→Option Value) (base:Heap) (C:Addr) (aC:Addr) (kvs:List (Key × V)):Prop where
 g:mg "CALLS"=some (.ref aC)
 dk:DK P w K aC kvs
 at_:∀ op n,plainRow op=some n→∃ t f,valV kvs (Sum.inl op)=some (.ref t)∧(∀ H,SqT K H t [.int (n:Nat),.ref f])∧PySem.W.keepIn K (.ref f)=true∧
  ∃ k fd,FnOk P w K mg base CX0 k f fd ["glacier","numbers"] (spAns K C op)∧k≤9∧Binds K fd ["glacier","numbers"] []
section
variable {P:Program} {w:World} {K:PySem.W.Frag} {mg:Str→Option Value} {base:Heap}
abbrev sTop:Stmt:=top 74
def spTop (K:PySem.W.Frag):Sp:=fun vs H Q _=>∃ (a:Addr) (l:List Int),vs=[.ref a]∧SqL K H a (ivs l)∧l.length≤16000∧PyVbexai.answers_asked l=true∧∀ (H':Hp) (p:Addr),H' p=some (.lst (ivs (PyVbexai.answers l)))→Q (.ref p) H'
theorem scTop:FnScope ["calls","glacier","told","at","call","start","middle","answer","action"] ["calls"] (defScope sTop):=⟨rfl,rfl,rfl,by decide +kernel,rfl,by decide +kernel,by decide +kernel⟩
theorem ok_top {f f1 f2 C aW aC:Addr} {kvsW kvsC:List (Key × V)} {fd fd1 fd2:FuncData} (F:Fun K "answers" "answers" sTop f fd) (B:Blt mg) (W:WT P w K mg base C aW kvsW) (D:CT P w K mg base C aC kvsC) (M:Mk K C f1) (gG:mg "Glacier"=some (.ref C))
  (G1:FnOk P w K mg base CX0 5 f1 fd1 ["self"] (spGi C)) (b1:Binds K fd1 ["self"] []) (c2:Cal P w K mg base "answer_on_way" 10 ["glacier","call","numbers","way"] (spOw K C) f2 fd2) :
  FnOk P w K mg base CX0 11 f fd ["calls"] (spTop K):=by
 refine F.ok scTop (fun vs H Q E h=>?_) (fun cdv A outer s H vs Q E hr h=>?_)
 ·obtain ⟨a,l,rfl,_⟩:=h
  rfl
 ·obtain ⟨a,l,rfl,hS,hlen,hask,k⟩:=h
  have nd:=scTop.nd
  have hr6:Room 6 _:=hr.mono (by decide)
  have hr9:Room 9 _:=hr.mono (by decide)
  refine ⟨_,pss_cons (ps_set (i:=1) nd rfl (Or.inl rfl) (pe_make0 M G1 hr6 rfl gG b1 .nil pass0))
   (pss_cons (ps_set (i:=2) nd rfl (Or.inl rfl) (pe_lst pa_nil))
   (pss_cons (ps_set (i:=3) nd rfl (Or.inl rfl) pe_int)
   (pss_cons (ps_while PassesOwn.never (pt_cmpR op_lt (pv 3) (pe_callB call_len_seq rfl B.len PySem.boot_len (pa_cons (pv 0) pa_nil)) (nomark _))
    (pss_cons (ps_set (i:=4) nd rfl (Or.inl rfl) (pe_ix ix_list (pv 0) (pv 3) (fun _ _=>rfl)))
    (pss_cons (ps_set (i:=5) nd rfl (Or.inl rfl) (pe_op op_add (pv 3) pe_int))
    (pss_cons (ps_if (pt_cmp (pc_dinG (pv 4) (pe_glob (v:=.ref aW) rfl W.g rfl)))
     (pss_cons (ps_set (i:=6) nd rfl (Or.inl rfl) (pe_op op_add (pv 5) (pe_callB call_len_seq rfl B.len PySem.boot_len (pa_cons (pe_ix ix_tup (pe_dgetG (pe_glob (v:=.ref aW) rfl W.g rfl) (pv 4) (fun _ _=>rfl)) pe_int (fun _ _=>rfl)) pa_nil))))
     (pss_cons (ps_set (i:=3) nd rfl (Or.inl rfl) (pe_op op_add (pe_op op_add (pv 6) pe_int) (pe_ix ix_list (pv 0) (pv 6) (fun _ _=>rfl))))
     (pss_one (ps_lock (ps_set (i:=7) nd rfl (Or.inl rfl) (pe_call c2.G hr rfl c2.g c2.kp c2.b .nil pass0 (pa_cons (pv 1) (pa_cons (pv 4) (pa_cons (pe_slice sl_list (pv 0) (po_some (pv 5)) (po_some (pv 6))) (pa_cons (pe_slice sl_list (pv 0) (po_some (pe_op op_add (pv 6) pe_int)) (po_some (pv 3))) pa_nil))))))))))
     (pss_cons (ps_set (i:=3) nd rfl (Or.inl rfl) (pe_op op_add (pv 5) (pe_ix ix_tup (pe_dgetG (pe_glob (v:=.ref aC) rfl D.g rfl) (pv 4) (fun _ _=>rfl)) pe_int (fun _ _=>rfl))))
     (pss_cons (ps_set (i:=8) nd rfl (Or.inl rfl) (pe_ix ix_tup (pe_dgetG (pe_glob (v:=.ref aC) rfl D.g rfl) (pv 4) (fun _ _=>rfl)) pe_int (fun _ _=>rfl)))
     (pss_one (ps_lock (ps_set (i:=7) nd rfl (Or.inl rfl) (pe_callV (i:=8) (n:=2) rfl (Or.inl rfl) (pa_cons (pv 1) (pa_cons (pe_slice sl_list (pv 0) (po_some (pv 5)) (po_some (pv 3))) pa_nil)))))))))
    (pss_cons (ps_expr (pe_bm PySem.F.plainAttrs_list PySem.F.slot_list_append PySem.F.type_list_append mt_append (pv 2) (pa_cons (pe_callB call_len_seq rfl B.len PySem.boot_len (pa_cons (pv 7) pa_nil)) pa_nil)))
    (pss_one (ps_expr (pe_bm PySem.F.plainAttrs_list PySem.F.slot_list_extend PySem.F.type_list_extend mt_extend (pv 2) (pa_cons (pv 7) pa_nil)))))))))
   (pss_one (ps_ret (pv 2)))))),?_⟩
  unfold PyVbexai.answers_asked at hask
  unfold PyVbexai.answers at k
  rw [calls_eq] at hask k
  cases ecs:PyFlat.calls PyVbexai.shape l.length l with
  |none=>rw [ecs] at hask; cases hask
  |some cs0=>
  rw [ecs] at hask k
  dsimp only at hask k
  rw [Bool.and_eq_true] at hask
  have h200:cs0.length≤200:=of_decide_eq_true hask.1
  have hall:∀ c ∈ cs0,VbexaiNeutral.asked1 c=true:=by
   have:=hask.2
   unfold VbexaiNeutral.asked at this
   rw [Bool.and_eq_true] at this
   exact List.all_eq_true.mp this.1
  generalize eA:PyFlat.told (PyFlat.played VbexaiNeutral.step VbexaiNeutral.start cs0)=A0 at k
  intro g dxg ng ndg neg
  refine ⟨g,dxg,rfl,upd_same,fun H1 X1 hG1=>⟨rfl,?_⟩⟩
  have S1:Same H H1:=Same.made ng ndg X1
  refine ⟨(by show 0≤sizeLine; decide),fun t ht=>?_⟩
  have nHt:H t=Option.none:=S1.free ht
  have S2:Same H (upd H1 t (.lst [])):=S1.new ht
  refine while_x (fun σ H'=>∃ (at':Nat) (st:Vbexai.St) (T:List Int) (cs:List (List (List Int))) (fu:Nat) (v4 v5 v6 v7 v8:Option V),σ=[some (.ref a),some (.ref g),some (.ref t),some (.int (at':Nat)),v4,v5,v6,v7,v8]∧Keep H H'∧Apart C H' g t st∧H' t=some (.lst (ivs T))∧at'≤l.length∧
    PyFlat.calls PyVbexai.shape fu (l.drop at')=some cs∧(∀ c ∈ cs,VbexaiNeutral.asked1 c=true)∧T ++ PyFlat.told (PyFlat.played VbexaiNeutral.step st cs)=A0∧T.length + 101 * cs.length≤20200)
   (fun σ _=>16001 - (intAt 3 σ).toNat)
   ⟨0,Vbexai.start,[],cs0,l.length,none,none,none,none,none,rfl,S2.keep,(Apart.of_new hG1 ht).upd _,upd_same,Nat.zero_le _,ecs,hall,eA,by show 0 + 101 * cs0.length≤20200; omega⟩ ?_
  rintro σ H2 ⟨at',st,T,cs,fu,v4,v5,v6,v7,v8,rfl,K2,hAp,ht2,hat,hcs,hasked,htold,hbound⟩
  refine ⟨_,rfl,_,rfl,a,_,rfl,.inl (K2.seq hS),_,_,rfl,rfl,_,rfl,ite2 (fun h1=>?_) (fun h1=>?_)⟩
  ·have h1':at' < l.length:=by
    have:=of_decide_eq_true h1
    rw [ivs_len] at this
    omega
   obtain ⟨p,hp⟩:∃ p,l[at']?=some p:=⟨_,List.getElem?_eq_getElem h1'⟩
   have hdrop:l.drop at'=p::l.drop (at' + 1):=by
    rw [List.drop_eq_getElem_cons h1',(List.getElem?_eq_some_iff.mp hp).2]
   rw [hdrop] at hcs
   cases fu with
   |zero=>cases hcs
   |succ fu=>
   obtain ⟨n,kk,xs,rest,cs',hshape,hnr,hrows,hcs',rfl⟩:=calls_step hcs
   have hro:=row_ok (row_of hshape hnr hrows)
   rw [List.length_drop] at hnr
   have hask1:=hasked _ (List.mem_cons_self ..)
   obtain ⟨d,hd⟩:=hro.2.1
   have hasked':∀ c ∈ cs',VbexaiNeutral.asked1 c=true:=fun c hc=>hasked c (List.mem_cons_of_mem _ hc)
   rw [played_cons st _ cs' hd] at htold
   rw [List.length_cons] at hbound
   refine ⟨fun σ' H'=>∃ (at'':Nat) (st':Vbexai.St) (T':List Int) (v4 v5 v6 v7 v8:Option V),at' < at''∧σ'=[some (.ref a),some (.ref g),some (.ref t),some (.int (at'':Nat)),v4,v5,v6,v7,v8]∧Keep H H'∧Apart C H' g t st'∧H' t=some (.lst (ivs T'))∧at''≤l.length∧l.drop at''=rest∧T' ++ PyFlat.told (PyFlat.played VbexaiNeutral.step st' cs')=A0∧T'.length + 101 * cs'.length≤20200,?_,?_⟩
   ·rintro σ' H' ⟨at'',st',T',w4,w5,w6,w7,w8,hlt,rfl,b1,b2,b3,b4,b5,b6,b7⟩
    refine ⟨_,?_,rfl,at'',st',T',cs',fu,w4,w5,w6,w7,w8,rfl,b1,b2,b3,b4,by rw [b5]; exact hcs',hasked',b6,b7⟩
    show 16001 - ((at'':Nat):Int).toNat < 16001 - ((at':Nat):Int).toNat
    rw [Int.toNat_natCast,Int.toNat_natCast]
    omega
   have tail:∀ {H3:Hp} {q:Addr} {at'':Nat} {v4 v5 v6 v8:Option V} {D':Ends},at' < at''→at''≤l.length→l.drop at''=rest→Keep H H3→Apart C H3 g t (Vbexai.step st d).1→H3 t=some (.lst (ivs T))→H3 q=some (.lst (ivs (Vbexai.step st d).2))→q ≠ t→(Vbexai.step st d).2.length≤100→
     ∃ (H4:Hp) (T':List Int),(ivs T).length < sizeLine∧((ivs T) ++ [V.int ((ivs (Vbexai.step st d).2).length:Nat)]).length + (ivs (Vbexai.step st d).2).length≤sizeLine∧H4=upd (upd H3 t (.lst (ivs T ++ [V.int ((ivs (Vbexai.step st d).2).length:Nat)]))) t (.lst ((ivs T ++ [V.int ((ivs (Vbexai.step st d).2).length:Nat)]) ++ ivs (Vbexai.step st d).2))∧Keep H H4∧Apart C H4 g t (Vbexai.step st d).1∧H4 t=some (.lst (ivs T'))∧T' ++ PyFlat.told (PyFlat.played VbexaiNeutral.step (Vbexai.step st d).1 cs')=A0∧T'.length + 101 * cs'.length≤20200:=by
    intro H3 q at'' _ _ _ _ _ hlt hle hrest K3 A3 t3 q3 nqt hl100
    refine ⟨_,T ++ ((Vbexai.step st d).2.length:Int)::(Vbexai.step st d).2,by rw [ivs_len]; exact nsize (by omega),?_,rfl,(K3.up nHt).up nHt,(A3.upd _).upd _,?_,?_,?_⟩
    ·rw [List.length_append,ivs_len,ivs_len]
     have:=nsize (n:=T.length + 1 + (Vbexai.step st d).2.length) (by omega)
     show T.length + 1 + (Vbexai.step st d).2.length≤sizeLine
     omega
    ·rw [upd_same,ivs_len]
     unfold ivs
     rw [List.map_append,List.append_assoc]; rfl
    ·rw [List.append_assoc]; exact htold
    ·rw [List.length_append,List.length_cons]
     omega
   have hGlock:∀ od:Obj,GlAt C (upd H2 t (.frz od (.lst (ivs T)))) g st:=fun od=>(hAp.upd _).at
   have Klock:∀ od:Obj,Keep H (upd H2 t (.frz od (.lst (ivs T)))):=fun od=>K2.up nHt
   refine ⟨_,rfl,_,rfl,a,_,_,_,rfl,rfl,K2.seq hS,atI_nat (ivs_at hp),?_⟩
   refine ⟨_,rfl,o0c rfl (v:=.int ((at' + 1:Nat):Int)) (congrArg V.int (by omega)) ?_⟩
   refine ⟨_,rfl,aW,kvsW,Sum.inl p,rfl,rfl,W.dk,_,rfl,?_⟩
   rcases shape_cases hshape with ⟨rfl,hplain,hnone⟩ | ⟨rfl,his,lim,hrow,hhl⟩
   ·
    obtain ⟨rfl,rfl⟩:=rows0 hrows
    rw [W.no p hnone]
    refine iteF ?_
    obtain ⟨tt,fa,hv,hT,kpa,ka,fda,Ga,hka,ba⟩:=D.at_ p n hplain
    have hra:Room ka _:=hr.mono (Nat.le_trans hka (by decide))
    refine ⟨_,rfl,_,rfl,aC,kvsC,Sum.inl p,_,rfl,rfl,D.dk,hv,tt,_,_,_,rfl,rfl,hT _,rfl,o0 rfl rfl (v:=.int ((at' + 1 + n:Nat):Int)) (congrArg V.int (by omega)) ?_⟩
    refine ⟨_,rfl,aC,kvsC,Sum.inl p,_,rfl,rfl,D.dk,hv,tt,_,_,_,rfl,rfl,hT _,rfl,?_⟩
    refine ⟨t,_,ht2,trivial,fun od=>?_⟩
    have hG3:=hGlock od
    have K3:=Klock od
    refine ⟨fa,spAns K C p,rfl,⟨⟨ka,fda,_,Ga,hra,ba,rfl⟩,kpa⟩,_,rfl,_,rfl,_,rfl,_,rfl,_,rfl,_,rfl,a,_,rfl,K3.seq hS,fun nl hnl=>?_⟩
    rw [cut_ivs (by omega) (by omega)]
    have ecut:(l.drop (at' + 1)).take (at' + 1 + n - (at' + 1))=(l.drop (at' + 1)).take n:=by
     rw [show at' + 1 + n - (at' + 1)=n by omega]
    rw [ecut]
    have S4:Same (upd H2 t (.frz od (.lst (ivs T)))) (upd (upd H2 t (.frz od (.lst (ivs T)))) nl (.lst (ivs ((l.drop (at' + 1)).take n)))):=(Same.refl _).new hnl
    refine ⟨g,nl,st,_,d,rfl,hG3.same S4,SqL.of upd_same,hd,fun H5 q K5 nq hG5 hq hl100=>?_⟩
    have ht5:H5 t=some (.frz od (.lst (ivs T))):=(S4.keep.trans K5).1 _ _ upd_same (fun _ _ _ z=>nomatch z) (fun _ z=>nomatch z)
    have nqt:q ≠ t:=fun z=>by
     have:=S4 _ _ (upd_same (H:=H2) (a:=t) (o:=.frz od (.lst (ivs T))))
     rw [z,this] at nq
     cases nq
    refine ⟨ht5,?_⟩
    have A5:Apart C (upd H5 t (.lst (ivs T))) g t (Vbexai.step st d).1:=(Apart.of_frz hG5 ht5).upd _
    have hq5:(upd H5 t (.lst (ivs T))) q=some (.lst (ivs (Vbexai.step st d).2)):=by rw [upd_ne nqt]; exact hq
    have K5':Keep H (upd H5 t (.lst (ivs T))):=((K3.trans S4.keep).trans K5).up nHt
    obtain ⟨H6,T',z1,z2,rfl,z3,z4,z5,z6,z7⟩:=tail (at'':=at' + 1 + n) (v4:=none) (v5:=none) (v6:=none) (v8:=none) (D':={ nx:=fun _ _=>True,rt:=fun _ _=>True }) (by omega) (by omega) (by rw [← List.drop_drop]) K5' A5 upd_same hq5 nqt hl100
    refine ⟨_,rfl,.inl ⟨rfl,_,SqL.of upd_same⟩,_,rfl,q,_,rfl,.inl (SqL.of hq5),t,_,_,rfl,rfl,upd_same,z1,?_⟩
    refine ⟨_,rfl,.inl ⟨rfl,_,SqL.of upd_same⟩,_,rfl,t,q,_,_,rfl,rfl,upd_same,(by rw [upd_ne nqt]; exact hq5),z2,?_⟩
    exact ⟨at' + 1 + n,_,T',_,_,_,_,_,by omega,rfl,z3,z4,z5,by omega,by rw [← List.drop_drop],z6,z7⟩
   ·
    obtain ⟨m,ss,hms,hml,rfl,rfl⟩:=rows1 hrows
    rw [List.drop_drop] at hms
    have hmid:at' + 1 + n < l.length:=by
     have:=congrArg List.length hms
     rw [List.length_drop,List.length_cons] at this
     omega
    have hlm:l[at' + 1 + n]?=some (m:Int):=by
     have:=congrArg (fun z=>z[0]?) hms
     rw [List.getElem?_drop] at this
     exact this
    have hss:ss=l.drop (at' + 1 + n + 1):=by
     have:=congrArg (List.drop 1) hms
     rw [List.drop_drop] at this
     exact this.symm
    subst hss
    rw [List.length_drop] at hml
    have hm16:((l.drop (at' + 1 + n + 1)).take m).length≤16:=hro.2.2 _ _ rfl hask1
    obtain ⟨tt,hh,fa,hv,hT,hH,_⟩:=W.at_ p his lim hrow
    rw [hv]
    refine iteT ?_
    refine ⟨_,rfl,_,rfl,aW,kvsW,Sum.inl p,_,rfl,rfl,W.dk,hv,tt,_,_,_,rfl,rfl,hT _,rfl,hh,_,rfl,.inr (hH _),o0 rfl rfl (v:=.int ((at' + 1 + n:Nat):Int)) (congrArg V.int (by rw [ivs_len,hhl]; omega)) ?_⟩
    refine ⟨_,rfl,o0c rfl (v:=.int ((at' + 1 + n + 1:Nat):Int)) (congrArg V.int (by omega)) ⟨_,rfl,_,rfl,a,_,_,_,rfl,rfl,K2.seq hS,atI_nat (ivs_at hlm),o0 rfl rfl (v:=.int ((at' + 1 + n + 1 + m:Nat):Int)) (congrArg V.int (by omega)) ?_⟩⟩
    refine ⟨t,_,ht2,trivial,fun od=>?_⟩
    have hG3:=hGlock od
    have K3:=Klock od
    refine ⟨_,rfl,_,rfl,_,rfl,_,rfl,_,rfl,_,rfl,_,rfl,a,_,rfl,K3.seq hS,fun nl hnl=>?_⟩
    rw [cut_ivs (by omega) (by omega)]
    have ecut:(l.drop (at' + 1)).take (at' + 1 + n - (at' + 1))=(l.drop (at' + 1)).take n:=by
     rw [show at' + 1 + n - (at' + 1)=n by omega]
    rw [ecut]
    have S4:Same (upd H2 t (.frz od (.lst (ivs T)))) (upd (upd H2 t (.frz od (.lst (ivs T)))) nl (.lst (ivs ((l.drop (at' + 1)).take n)))):=(Same.refl _).new hnl
    refine ⟨_,rfl,_,rfl,o0c rfl (v:=.int ((at' + 1 + n + 1:Nat):Int)) (congrArg V.int (by omega)) ⟨_,rfl,_,rfl,_,rfl,a,_,rfl,(K3.trans S4.keep).seq hS,fun wl hwl=>?_⟩⟩
    rw [cut_ivs (by omega) (by omega)]
    have ecut2:(l.drop (at' + 1 + n + 1)).take (at' + 1 + n + 1 + m - (at' + 1 + n + 1))=(l.drop (at' + 1 + n + 1)).take m:=by
     rw [show at' + 1 + n + 1 + m - (at' + 1 + n + 1)=m by omega]
    rw [ecut2]
    have S5:=S4.new (o:=.lst (ivs ((l.drop (at' + 1 + n + 1)).take m))) hwl
    have nnw:nl ≠ wl:=ne_of_none (o:=.lst (ivs ((l.drop (at' + 1)).take n))) upd_same hwl
    refine ⟨g,nl,wl,st,p,_,_,d,his,lim,rfl,hG3.same S5,SqL.of (by rw [upd_ne nnw,upd_same]),SqL.of upd_same,by omega,hrow,hd,fun H6 q K6 nq hG6 hq hl100=>?_⟩
    have ht6:H6 t=some (.frz od (.lst (ivs T))):=(S5.keep.trans K6).1 _ _ upd_same (fun _ _ _ z=>nomatch z) (fun _ z=>nomatch z)
    have nqt:q ≠ t:=fun z=>by
     have:=S5 _ _ (upd_same (H:=H2) (a:=t) (o:=.frz od (.lst (ivs T))))
     rw [z,this] at nq
     cases nq
    refine ⟨ht6,?_⟩
    have A6:Apart C (upd H6 t (.lst (ivs T))) g t (Vbexai.step st d).1:=(Apart.of_frz hG6 ht6).upd _
    have hq6:(upd H6 t (.lst (ivs T))) q=some (.lst (ivs (Vbexai.step st d).2)):=by rw [upd_ne nqt]; exact hq
    have K6':Keep H (upd H6 t (.lst (ivs T))):=((K3.trans S5.keep).trans K6).up nHt
    have hrest:l.drop (at' + 1 + n + 1 + m)=(l.drop (at' + 1 + n + 1)).drop m:=by rw [List.drop_drop]
    obtain ⟨H7,T',z1,z2,rfl,z3,z4,z5,z6,z7⟩:=tail (at'':=at' + 1 + n + 1 + m) (v4:=none) (v5:=none) (v6:=none) (v8:=none) (D':={ nx:=fun _ _=>True,rt:=fun _ _=>True }) (by omega) (by omega) hrest K6' A6 upd_same hq6 nqt hl100
    refine ⟨_,rfl,.inl ⟨rfl,_,SqL.of upd_same⟩,_,rfl,q,_,rfl,.inl (SqL.of hq6),t,_,_,rfl,rfl,upd_same,z1,?_⟩
    refine ⟨_,rfl,.inl ⟨rfl,_,SqL.of upd_same⟩,_,rfl,t,q,_,_,rfl,rfl,upd_same,(by rw [upd_ne nqt]; exact hq6),z2,?_⟩
    exact ⟨at' + 1 + n + 1 + m,_,T',_,_,_,_,_,by omega,rfl,z3,z4,z5,by omega,hrest,z6,z7⟩
  ·have hend:at'=l.length:=by
    have:¬ ((at':Int) < ((ivs l).length:Int)):=fun z=>h1 (decide_eq_true z)
    rw [ivs_len] at this
    omega
   subst hend
   rw [List.drop_length] at hcs
   have ecs2:cs=[]:=by
    cases fu with
    |zero=>cases hcs; rfl
    |succ fu=>cases hcs; rfl
   subst ecs2
   refine ⟨_,rfl,k H2 t ?_⟩
   rw [ht2,← htold]
   show some (HO.lst (ivs T))=some (HO.lst (ivs (T ++ [])))
   rw [List.append_nil]
end
end Rp
namespace Rp
open PySem PySem.Spec PyProof.Rows L2
open PySem.W (nsIn findIn mg_of mg_none_of fnOf codeIn keepIn plainGet hasDictIn plainOver makesIn isFn Frag)
abbrev sr (f:Addr):Option (Option Value):=some (some (.ref f))
abbrev tu (o:Option Addr) (a:Array Value) (n:Nat) (s:Array (Option Value)):Option Obj:=some ⟨.type "tuple",o,.seq a n,s⟩
structure DefIn (K:Frag) (x qual:Str) (st:Stmt) (f:Addr):Prop where
 ex:∃ fd,Fun K x qual st f fd∧∃ kV doc pm an cdv ct,fd=fnOf x qual (defArgs st) (defBody st) (defScope st) .none kV doc pm an cdv ct
theorem defIn_mk {K:Frag} {x qual:Str} {st:Stmt} {f:Addr} {oc:Value} {od an:Option Addr} {osl:Array (Option Value)} {kV doc pm cdv ct:Value} (l:K.lookup f=some ⟨oc,od,.func (fnOf x qual (defArgs st) (defBody st) (defScope st) .none kV doc pm an cdv ct),osl⟩)
  (c:codeIn K cdv qual=true) (k:keepIn K (.ref f)=true):DefIn K x qual st f:=⟨_,fun_mk l c k,kV,doc,pm,an,cdv,ct,rfl⟩
theorem u1 {us:List Value} (h:us.length=1):∃ a,us=[a]:=by
 exact List.length_eq_one_iff.mp h
theorem u2 {us:List Value} (h:us.length=2):∃ a b,us=[a,b]:=by
 cases us with
 |nil=>cases h
 |cons a l=>obtain ⟨b,rfl⟩:=u1 (Nat.succ.inj h); exact ⟨a,b,rfl⟩
theorem u3 {us:List Value} (h:us.length=3):∃ a b c,us=[a,b,c]:=by
 cases us with
 |nil=>cases h
 |cons a l=>obtain ⟨b,c,rfl⟩:=u2 (Nat.succ.inj h); exact ⟨a,b,c,rfl⟩
theorem u4 {us:List Value} (h:us.length=4):∃ a b c d,us=[a,b,c,d]:=by
 cases us with
 |nil=>cases h
 |cons a l=>obtain ⟨b,c,d,rfl⟩:=u3 (Nat.succ.inj h); exact ⟨a,b,c,d,rfl⟩
theorem u5 {us:List Value} (h:us.length=5):∃ a b c d e,us=[a,b,c,d,e]:=by
 cases us with
 |nil=>cases h
 |cons a l=>obtain ⟨b,c,d,e,rfl⟩:=u4 (Nat.succ.inj h); exact ⟨a,b,c,d,e,rfl⟩
theorem u6 {us:List Value} (h:us.length=6):∃ a b c d e f,us=[a,b,c,d,e,f]:=by
 cases us with
 |nil=>cases h
 |cons a l=>obtain ⟨b,c,d,e,f,rfl⟩:=u5 (Nat.succ.inj h); exact ⟨a,b,c,d,e,f,rfl⟩
theorem DefIn.get {K:Frag} {x qual:Str} {st:Stmt} {f:Addr} (d:DefIn K x qual st f) (ps:List Str)
  (h:∀ (kV doc pm:Value) (an:Option Addr) (cdv ct:Value) (us:List Value),us.length=ps.length→bindArgs (fnOf x qual (defArgs st) (defBody st) (defScope st) .none kV doc pm an cdv ct) ⟨us,[]⟩=pure (ps.zip us):=by intro _ _ _ _ _ _ us hl; first | (obtain ⟨_,rfl⟩:=u1 hl; rfl) | (obtain ⟨_,_,rfl⟩:=u2 hl; rfl) | (obtain ⟨_,_,_,rfl⟩:=u3 hl; rfl) | (obtain ⟨_,_,_,_,rfl⟩:=u4 hl; rfl) | (obtain ⟨_,_,_,_,_,rfl⟩:=u5 hl; rfl) | (obtain ⟨_,_,_,_,_,_,rfl⟩:=u6 hl; rfl)):∃ fd,Fun K x qual st f fd∧Binds K fd ps []:=by
 obtain ⟨fd,F,_⟩:=d.ex
 exact ⟨fd,F,F.binds h⟩
theorem tupK {K:Frag} {a:Addr} {od:Option Addr} {its:Array Value} {n:Nat} {sl:Array (Option Value)} {xs:List V} (l:K.lookup a=tu od its n sl) (r:Vals xs its.toList) (hz:its.size≤sizeLine:=by exact of_decide_eq_true rfl) (H:Hp):SqT K H a xs:=.inr ⟨_,its,n,l,rfl,rfl,hz,r⟩
theorem vr {a:Addr} {xs:List V} {us:List Value} (h:Vals xs us):Vals (.ref a::xs) (.ref a::us):=.cons rfl h
theorem vi {i:Int} {t:Tok} {xs:List V} {us:List Value} (h:Vals xs us):Vals (.int i::xs) (.int i t::us):=.cons ⟨t,rfl⟩ h
theorem vn {xs:List V} {us:List Value} (h:Vals xs us):Vals (.non::xs) (.none::us):=.cons rfl h
theorem num_mk {K:Frag} {h:Heap} {mg:Str→Option Value} {x:Str} {i:Int} {t:Tok} (X:K.In h) (G:h.Ns mainGlobals mg) (e:nsIn K mainGlobals x=some (some (.int i t))):Num mg x i:=⟨_,mg_of X G e,t,rfl⟩
theorem dk_calls {P:Program} {w:World} {K:Frag} {a:Addr} {ep:Nat} {k0 k1 k2 k3 k4 k5 k6 k7 k8 k9 k10 k11:Tok} {t0 t1 t2 t3 t4 t5 t6 t7 t8 t9 t10 t11:Addr} (no:(a == sysModules)=false) (l:K.lookup a=some ⟨.type "dict",none,.dict #[⟨0,.int 0 k0,.ref t0⟩,⟨1,.int 1 k1,.ref t1⟩,⟨2,.int 2 k2,.ref t2⟩,⟨3,.int 3 k3,.ref t3⟩,⟨4,.int 4 k4,.ref t4⟩,⟨5,.int 5 k5,.ref t5⟩,⟨6,.int 6 k6,.ref t6⟩,⟨7,.int 7 k7,.ref t7⟩,⟨8,.int 8 k8,.ref t8⟩,⟨15,.int 15 k9,.ref t9⟩,⟨16,.int 16 k10,.ref t10⟩,⟨17,.int 17 k11,.ref t11⟩] ep,#[]⟩):DK P w K a [(Sum.inl 0,V.ref t0),(Sum.inl 1,V.ref t1),(Sum.inl 2,V.ref t2),(Sum.inl 3,V.ref t3),(Sum.inl 4,V.ref t4),(Sum.inl 5,V.ref t5),(Sum.inl 6,V.ref t6),(Sum.inl 7,V.ref t7),(Sum.inl 8,V.ref t8),(Sum.inl 15,V.ref t9),(Sum.inl 16,V.ref t10),(Sum.inl 17,V.ref t11)]:=by
 refine ⟨no,[(Sum.inl 0,Value.ref t0),(Sum.inl 1,Value.ref t1),(Sum.inl 2,Value.ref t2),(Sum.inl 3,Value.ref t3),(Sum.inl 4,Value.ref t4),(Sum.inl 5,Value.ref t5),(Sum.inl 6,Value.ref t6),(Sum.inl 7,Value.ref t7),(Sum.inl 8,Value.ref t8),(Sum.inl 15,Value.ref t9),(Sum.inl 16,Value.ref t10),(Sum.inl 17,Value.ref t11)],.cons ⟨rfl,rfl⟩ (.cons ⟨rfl,rfl⟩ (.cons ⟨rfl,rfl⟩ (.cons ⟨rfl,rfl⟩ (.cons ⟨rfl,rfl⟩ (.cons ⟨rfl,rfl⟩ (.cons ⟨rfl,rfl⟩ (.cons ⟨rfl,rfl⟩ (.cons ⟨rfl,rfl⟩ (.cons ⟨rfl,rfl⟩ (.cons ⟨rfl,rfl⟩ (.cons ⟨rfl,rfl⟩ (.nil)))))))))))),fun h hk=>⟨_,_,ep,hk _ l,⟨rfl,rfl,rfl⟩,rfl,fun e he=>?_,.cons (keyIs_int 0 k0) rfl (.cons (keyIs_int 1 k1) rfl (.cons (keyIs_int 2 k2) rfl (.cons (keyIs_int 3 k3) rfl (.cons (keyIs_int 4 k4) rfl (.cons (keyIs_int 5 k5) rfl (.cons (keyIs_int 6 k6) rfl (.cons (keyIs_int 7 k7) rfl (.cons (keyIs_int 8 k8) rfl (.cons (keyIs_int 15 k9) rfl (.cons (keyIs_int 16 k10) rfl (.cons (keyIs_int 17 k11) rfl (.nil)))))))))))),by show ([Sum.inl 0,Sum.inl 1,Sum.inl 2,Sum.inl 3,Sum.inl 4,Sum.inl 5,Sum.inl 6,Sum.inl 7,Sum.inl 8,Sum.inl 15,Sum.inl 16,Sum.inl 17]:List Key).Nodup; decide⟩⟩
 have he:e ∈ ([⟨0,.int 0 k0,.ref t0⟩,⟨1,.int 1 k1,.ref t1⟩,⟨2,.int 2 k2,.ref t2⟩,⟨3,.int 3 k3,.ref t3⟩,⟨4,.int 4 k4,.ref t4⟩,⟨5,.int 5 k5,.ref t5⟩,⟨6,.int 6 k6,.ref t6⟩,⟨7,.int 7 k7,.ref t7⟩,⟨8,.int 8 k8,.ref t8⟩,⟨15,.int 15 k9,.ref t9⟩,⟨16,.int 16 k10,.ref t10⟩,⟨17,.int 17 k11,.ref t11⟩]:List DictEntry):=by simpa using he
 simp only [List.mem_cons,List.not_mem_nil,or_false] at he
 rcases he with rfl | rfl | rfl | rfl | rfl | rfl | rfl | rfl | rfl | rfl | rfl | rfl
 ·exact ⟨Sum.inl 0,keyIs_int 0 k0,rfl⟩
 ·exact ⟨Sum.inl 1,keyIs_int 1 k1,rfl⟩
 ·exact ⟨Sum.inl 2,keyIs_int 2 k2,rfl⟩
 ·exact ⟨Sum.inl 3,keyIs_int 3 k3,rfl⟩
 ·exact ⟨Sum.inl 4,keyIs_int 4 k4,rfl⟩
 ·exact ⟨Sum.inl 5,keyIs_int 5 k5,rfl⟩
 ·exact ⟨Sum.inl 6,keyIs_int 6 k6,rfl⟩
 ·exact ⟨Sum.inl 7,keyIs_int 7 k7,rfl⟩
 ·exact ⟨Sum.inl 8,keyIs_int 8 k8,rfl⟩
 ·exact ⟨Sum.inl 15,keyIs_int 15 k9,rfl⟩
 ·exact ⟨Sum.inl 16,keyIs_int 16 k10,rfl⟩
 ·exact ⟨Sum.inl 17,keyIs_int 17 k11,rfl⟩
theorem dk_ways {P:Program} {w:World} {K:Frag} {a:Addr} {ep:Nat} {k0 k1 k2 k3 k4 k5:Tok} {t0 t1 t2 t3 t4 t5:Addr} (no:(a == sysModules)=false) (l:K.lookup a=some ⟨.type "dict",none,.dict #[⟨9,.int 9 k0,.ref t0⟩,⟨10,.int 10 k1,.ref t1⟩,⟨11,.int 11 k2,.ref t2⟩,⟨12,.int 12 k3,.ref t3⟩,⟨13,.int 13 k4,.ref t4⟩,⟨14,.int 14 k5,.ref t5⟩] ep,#[]⟩):DK P w K a [(Sum.inl 9,V.ref t0),(Sum.inl 10,V.ref t1),(Sum.inl 11,V.ref t2),(Sum.inl 12,V.ref t3),(Sum.inl 13,V.ref t4),(Sum.inl 14,V.ref t5)]:=by
 refine ⟨no,[(Sum.inl 9,Value.ref t0),(Sum.inl 10,Value.ref t1),(Sum.inl 11,Value.ref t2),(Sum.inl 12,Value.ref t3),(Sum.inl 13,Value.ref t4),(Sum.inl 14,Value.ref t5)],.cons ⟨rfl,rfl⟩ (.cons ⟨rfl,rfl⟩ (.cons ⟨rfl,rfl⟩ (.cons ⟨rfl,rfl⟩ (.cons ⟨rfl,rfl⟩ (.cons ⟨rfl,rfl⟩ (.nil)))))),fun h hk=>⟨_,_,ep,hk _ l,⟨rfl,rfl,rfl⟩,rfl,fun e he=>?_,.cons (keyIs_int 9 k0) rfl (.cons (keyIs_int 10 k1) rfl (.cons (keyIs_int 11 k2) rfl (.cons (keyIs_int 12 k3) rfl (.cons (keyIs_int 13 k4) rfl (.cons (keyIs_int 14 k5) rfl (.nil)))))),by show ([Sum.inl 9,Sum.inl 10,Sum.inl 11,Sum.inl 12,Sum.inl 13,Sum.inl 14]:List Key).Nodup; decide⟩⟩
 have he:e ∈ ([⟨9,.int 9 k0,.ref t0⟩,⟨10,.int 10 k1,.ref t1⟩,⟨11,.int 11 k2,.ref t2⟩,⟨12,.int 12 k3,.ref t3⟩,⟨13,.int 13 k4,.ref t4⟩,⟨14,.int 14 k5,.ref t5⟩]:List DictEntry):=by simpa using he
 simp only [List.mem_cons,List.not_mem_nil,or_false] at he
 rcases he with rfl | rfl | rfl | rfl | rfl | rfl
 ·exact ⟨Sum.inl 9,keyIs_int 9 k0,rfl⟩
 ·exact ⟨Sum.inl 10,keyIs_int 10 k1,rfl⟩
 ·exact ⟨Sum.inl 11,keyIs_int 11 k2,rfl⟩
 ·exact ⟨Sum.inl 12,keyIs_int 12 k3,rfl⟩
 ·exact ⟨Sum.inl 13,keyIs_int 13 k4,rfl⟩
 ·exact ⟨Sum.inl 14,keyIs_int 14 k5,rfl⟩
theorem steps_mk {K:Frag} {h:Heap} {mg:Str→Option Value} {aS a0 a1 a2 a3 a4 a5 a6 a7:Addr} {od o0 o1 o2 o3 o4 o5 o6 o7:Option Addr} {n n0 n1 n2 n3 n4 n5 n6 n7:Nat} {sl s0 s1 s2 s3 s4 s5 s6 s7:Array (Option Value)} {x0 x1 x2 x3 x4 x5 x6 x7 y0 y1 y2 y3 y4 y5 y6 y7:Tok} (X:K.In h) (G:h.Ns mainGlobals mg) (e:nsIn K mainGlobals "STEPS"=sr aS)
  (l:K.lookup aS=tu od #[.ref a0,.ref a1,.ref a2,.ref a3,.ref a4,.ref a5,.ref a6,.ref a7] n sl)
  (l0:K.lookup a0=tu o0 #[.int 0 x0,.int (-1) y0] n0 s0)
  (l1:K.lookup a1=tu o1 #[.int 1 x1,.int (-1) y1] n1 s1)
  (l2:K.lookup a2=tu o2 #[.int 1 x2,.int 0 y2] n2 s2)
  (l3:K.lookup a3=tu o3 #[.int 1 x3,.int 1 y3] n3 s3)
  (l4:K.lookup a4=tu o4 #[.int 0 x4,.int 1 y4] n4 s4)
  (l5:K.lookup a5=tu o5 #[.int (-1) x5,.int 1 y5] n5 s5)
  (l6:K.lookup a6=tu o6 #[.int (-1) x6,.int 0 y6] n6 s6)
  (l7:K.lookup a7=tu o7 #[.int (-1) x7,.int (-1) y7] n7 s7)
  :StepsOk K mg:=by
 refine ⟨aS,[a0,a1,a2,a3,a4,a5,a6,a7],mg_of X G e,tupK l (vr (vr (vr (vr (vr (vr (vr (vr .nil)))))))),rfl,fun d v hv=>?_⟩
 match d,hv with
 | 0,hv=>cases hv; exact ⟨a0,rfl,tupK l0 (vi (vi .nil))⟩
 | 1,hv=>cases hv; exact ⟨a1,rfl,tupK l1 (vi (vi .nil))⟩
 | 2,hv=>cases hv; exact ⟨a2,rfl,tupK l2 (vi (vi .nil))⟩
 | 3,hv=>cases hv; exact ⟨a3,rfl,tupK l3 (vi (vi .nil))⟩
 | 4,hv=>cases hv; exact ⟨a4,rfl,tupK l4 (vi (vi .nil))⟩
 | 5,hv=>cases hv; exact ⟨a5,rfl,tupK l5 (vi (vi .nil))⟩
 | 6,hv=>cases hv; exact ⟨a6,rfl,tupK l6 (vi (vi .nil))⟩
 | 7,hv=>cases hv; exact ⟨a7,rfl,tupK l7 (vi (vi .nil))⟩
 |d + 8,hv=>simp [Vbexai.DIRS] at hv
structure ClsIn (K:Frag) (C:Addr):Prop where
 pg:plainGet K C Str.empty=true
 hd:hasDictIn K C=true
 po:plainOver K C=true
 sa:findIn K (.ref C) "__setattr__"=some (some (.builtin "object.__setattr__"))
 mks:makesIn K C=true
 kc:keepIn K (.ref C)=true
theorem ClsIn.cls {K:Frag} {C:Addr} (c:ClsIn K C):Cls K C:=⟨c.pg,c.hd,c.po,c.sa⟩
structure MthIn (K:Frag) (C:Addr) (m qual:Str) (st:Stmt) (f:Addr):Prop where
 at_:findIn K (.ref C) m=sr f
 fn:isFn K (.ref f)=true
 df:DefIn K m qual st f
theorem mthIn_mk {K:Frag} {C:Addr} {m qual:Str} {st:Stmt} {f:Addr} (a:findIn K (.ref C) m=sr f) (i:isFn K (.ref f)=true) (d:DefIn K m qual st f):MthIn K C m qual st f:=⟨a,i,d⟩
theorem all_mk {P:Program} {w:World} {K:Frag} {h:Heap} {mg:Str→Option Value} {fa C D:Addr} {t52 t53 t54 t55 t56 t57 t58 t59 t60 t61 t62 t63 t64 t65 kc0 kc1 kc2 kc3 kc4 kc5 kc6 kc7 kc8 kc15 kc16 kc17 xc0 xc1 xc2 xc3 xc4 xc5 xc6 xc7 xc8 xc15 xc16 xc17 kw9 kw10 kw11 kw12 kw13 kw14 yw10 zw10_0 zw10_1 zw10_2 yw11 zw11_0 zw11_1 yw12 zw12_0 zw12_1 yw13 yw14:Tok} {f0 f1 f2 f3 f4 f5 f6 f7 f8 f9 f10 f11 f12 f13 f14 f15 f16 f17 f18 f19 f20 f21 f22 f23 f24 f25 f26 f27 f28 f29 f30 f31 f32 f33 f34 f35 f36 f37 f38 f39 f40 f41 f42 f43 f44 f45 f46 f47 f48 f49 g75 g76 g77 g78 g79 g80 g81 g82 g83 g84 g85 g86 g87 g88 g89 g90 aC tc0 tc1 tc2 tc3 tc4 tc5 tc6 tc7 tc8 tc15 tc16 tc17 aW tw9 tw10 tw11 tw12 tw13 tw14 hw9 hw10 hw11 hw12 hw13 hw14:Addr} {epC nc0 nc1 nc2 nc3 nc4 nc5 nc6 nc7 nc8 nc15 nc16 nc17 epW nw9 nh9 nw10 nh10 nw11 nh11 nw12 nh12 nw13 nh13 nw14 nh14:Nat} {oc0 oc1 oc2 oc3 oc4 oc5 oc6 oc7 oc8 oc15 oc16 oc17 ow9 oh9 ow10 oh10 ow11 oh11 ow12 oh12 ow13 oh13 ow14 oh14:Option Addr} {sc0 sc1 sc2 sc3 sc4 sc5 sc6 sc7 sc8 sc15 sc16 sc17 sw9 sh9 sw10 sh10 sw11 sh11 sw12 sh12 sw13 sh13 sw14 sh14:Array (Option Value)}
 (X:K.In h) (G:h.Ns mainGlobals mg) (hfa:mg "answers"=some (.ref fa))
 (b66:nsIn K mainGlobals "range"=some none)
 (b67:nsIn K mainGlobals "len"=some none)
 (b68:nsIn K mainGlobals "list"=some none)
 (b69:nsIn K mainGlobals "sorted"=some none)
 (b70:nsIn K mainGlobals "enumerate"=some none)
 (b71:nsIn K mainGlobals "zip"=some none)
 (b72:nsIn K mainGlobals "max"=some none)
 (b73:nsIn K mainGlobals "all"=some none)
 (b74:nsIn K mainGlobals "any"=some none)
 (n52:nsIn K mainGlobals "FIRM"=some (some (.int 0 t52)))
 (n53:nsIn K mainGlobals "HOLE"=some (some (.int 1 t53)))
 (n54:nsIn K mainGlobals "UNKNOWN"=some (some (.int 2 t54)))
 (n55:nsIn K mainGlobals "MOST_PROBES"=some (some (.int 3 t55)))
 (n56:nsIn K mainGlobals "LONGEST_WAY"=some (some (.int 12 t56)))
 (n57:nsIn K mainGlobals "OUT_OF_RANGE"=some (some (.int (-1) t57)))
 (n58:nsIn K mainGlobals "NOT_THERE"=some (some (.int (-4) t58)))
 (n59:nsIn K mainGlobals "FOUND_ALREADY"=some (some (.int (-5) t59)))
 (n60:nsIn K mainGlobals "NONE_AGREES"=some (some (.int (-6) t60)))
 (n61:nsIn K mainGlobals "TOO_MANY"=some (some (.int (-8) t61)))
 (n62:nsIn K mainGlobals "NONE_THERE"=some (some (.int (-9) t62)))
 (n63:nsIn K mainGlobals "LAST_WORLD"=some (some (.int 100000 t63)))
 (n64:nsIn K mainGlobals "MOST_MEMBERS"=some (some (.int 9 t64)))
 (n65:nsIn K mainGlobals "MOST_SPACING"=some (some (.int 6 t65)))
 (a0:nsIn K mainGlobals "crevasse"=sr f0) (d0:DefIn K "crevasse" "crevasse" sCrev f0)
 (a1:nsIn K mainGlobals "crevasses"=sr f1) (d1:DefIn K "crevasses" "crevasses" sCrevs f1)
 (a2:nsIn K mainGlobals "hidden_fields"=sr f2) (d2:DefIn K "hidden_fields" "hidden_fields" sHid f2)
 (a3:nsIn K mainGlobals "agreeing"=sr f3) (d3:DefIn K "agreeing" "agreeing" sAgr f3)
 (a4:nsIn K mainGlobals "ever_holes"=sr f4) (d4:DefIn K "ever_holes" "ever_holes" sEver f4)
 (a5:nsIn K mainGlobals "holes"=sr f5) (d5:DefIn K "holes" "holes" sHoles f5)
 (a6:nsIn K mainGlobals "hole_counts"=sr f6) (d6:DefIn K "hole_counts" "hole_counts" sHc f6)
 (a7:nsIn K mainGlobals "cells_number"=sr f7) (d7:DefIn K "cells_number" "cells_number" sCn f7)
 (a8:nsIn K mainGlobals "bit_counts"=sr f8) (d8:DefIn K "bit_counts" "bit_counts" sBc f8)
 (a9:nsIn K mainGlobals "hole_places"=sr f9) (d9:DefIn K "hole_places" "hole_places" sHp f9)
 (a10:nsIn K mainGlobals "first_fields"=sr f10) (d10:DefIn K "first_fields" "first_fields" sFf f10)
 (a11:nsIn K mainGlobals "clear_fields"=sr f11) (d11:DefIn K "clear_fields" "clear_fields" sCf f11)
 (a12:nsIn K mainGlobals "fields_with_hole"=sr f12) (d12:DefIn K "fields_with_hole" "fields_with_hole" sFw f12)
 (a13:nsIn K mainGlobals "fields_not_clear"=sr f13) (d13:DefIn K "fields_not_clear" "fields_not_clear" sFn f13)
 (a14:nsIn K mainGlobals "cover_from"=sr f14) (d14:DefIn K "cover_from" "cover_from" sCov f14)
 (a15:nsIn K mainGlobals "least_cover"=sr f15) (d15:DefIn K "least_cover" "least_cover" sLc f15)
 (a16:nsIn K mainGlobals "is_settled"=sr f16) (d16:DefIn K "is_settled" "is_settled" sIs f16)
 (a17:nsIn K mainGlobals "is_enough"=sr f17) (d17:DefIn K "is_enough" "is_enough" sEn f17)
 (a18:nsIn K mainGlobals "first_probe"=sr f18) (d18:DefIn K "first_probe" "first_probe" sFp f18)
 (a19:nsIn K mainGlobals "least_plan"=sr f19) (d19:DefIn K "least_plan" "least_plan" sLp f19)
 (a20:nsIn K mainGlobals "best_split"=sr f20) (d20:DefIn K "best_split" "best_split" sBs f20)
 (a21:nsIn K mainGlobals "neighbour"=sr f21) (d21:DefIn K "neighbour" "neighbour" sNb f21)
 (a22:nsIn K mainGlobals "leads_on"=sr f22) (d22:DefIn K "leads_on" "leads_on" sLo f22)
 (a23:nsIn K mainGlobals "is_way"=sr f23) (d23:DefIn K "is_way" "is_way" sIw f23)
 (a24:nsIn K mainGlobals "distances"=sr f24) (d24:DefIn K "distances" "distances" sDist f24)
 (a25:nsIn K mainGlobals "least_direction"=sr f25) (d25:DefIn K "least_direction" "least_direction" sLd f25)
 (a26:nsIn K mainGlobals "shortest_way"=sr f26) (d26:DefIn K "shortest_way" "shortest_way" sSw f26)
 (a27:nsIn K mainGlobals "within"=sr f27) (d27:DefIn K "within" "within" sWi f27)
 (a28:nsIn K mainGlobals "is_field"=sr f28) (d28:DefIn K "is_field" "is_field" sIf f28)
 (a29:nsIn K mainGlobals "answer_field"=sr f29) (d29:DefIn K "answer_field" "answer_field" sA0 f29)
 (a30:nsIn K mainGlobals "is_find"=sr f30) (d30:DefIn K "is_find" "is_find" sIfd f30)
 (a31:nsIn K mainGlobals "answer_found"=sr f31) (d31:DefIn K "answer_found" "answer_found" sA1 f31)
 (a32:nsIn K mainGlobals "answer_undo"=sr f32) (d32:DefIn K "answer_undo" "answer_undo" sA2 f32)
 (a33:nsIn K mainGlobals "answer_finds"=sr f33) (d33:DefIn K "answer_finds" "answer_finds" sA3 f33)
 (a34:nsIn K mainGlobals "answer_count"=sr f34) (d34:DefIn K "answer_count" "answer_count" sA4 f34)
 (a35:nsIn K mainGlobals "answer_cell"=sr f35) (d35:DefIn K "answer_cell" "answer_cell" sA5 f35)
 (a36:nsIn K mainGlobals "answer_map"=sr f36) (d36:DefIn K "answer_map" "answer_map" sA6 f36)
 (a37:nsIn K mainGlobals "answer_world"=sr f37) (d37:DefIn K "answer_world" "answer_world" sA7 f37)
 (a38:nsIn K mainGlobals "answer_way"=sr f38) (d38:DefIn K "answer_way" "answer_way" sA8 f38)
 (a39:nsIn K mainGlobals "answer_look"=sr f39) (d39:DefIn K "answer_look" "answer_look" sA9 f39)
 (a40:nsIn K mainGlobals "answer_rope"=sr f40) (d40:DefIn K "answer_rope" "answer_rope" sA10 f40)
 (a41:nsIn K mainGlobals "answer_fewest"=sr f41) (d41:DefIn K "answer_fewest" "answer_fewest" sA11 f41)
 (a42:nsIn K mainGlobals "answer_spacing"=sr f42) (d42:DefIn K "answer_spacing" "answer_spacing" sA12 f42)
 (a43:nsIn K mainGlobals "answer_cover"=sr f43) (d43:DefIn K "answer_cover" "answer_cover" sA13 f43)
 (a44:nsIn K mainGlobals "answer_plan"=sr f44) (d44:DefIn K "answer_plan" "answer_plan" sA14 f44)
 (a45:nsIn K mainGlobals "answer_split"=sr f45) (d45:DefIn K "answer_split" "answer_split" sA15 f45)
 (a46:nsIn K mainGlobals "answer_suppose"=sr f46) (d46:DefIn K "answer_suppose" "answer_suppose" sA16 f46)
 (a47:nsIn K mainGlobals "answer_form"=sr f47) (d47:DefIn K "answer_form" "answer_form" sA17 f47)
 (a48:nsIn K mainGlobals "answer_on_way"=sr f48) (d48:DefIn K "answer_on_way" "answer_on_way" sOw f48)
 (a49:nsIn K mainGlobals "answers"=sr f49) (d49:DefIn K "answers" "answers" sTop f49)
 (a50:nsIn K mainGlobals "Crossing"=sr D) (c50:ClsIn K D)
 (a51:nsIn K mainGlobals "Glacier"=sr C) (c51:ClsIn K C)
 (x91:findIn K (.ref D) "way_length"=some none)
 (x92:findIn K (.ref D) "firsts"=some none)
 (x93:findIn K (.ref D) "set_bits"=some none)
 (x94:findIn K (.ref C) "width"=some none)
 (x95:findIn K (.ref C) "height"=some none)
 (x96:findIn K (.ref C) "least"=some none)
 (x97:findIn K (.ref C) "most"=some none)
 (x98:findIn K (.ref C) "many"=some none)
 (x99:findIn K (.ref C) "hidden"=some none)
 (x100:findIn K (.ref C) "possible"=some none)
 (x101:findIn K (.ref C) "counts"=some none)
 (x102:findIn K (.ref C) "finds"=some none)
 (m75:MthIn K D "__init__" "Crossing.__init__" sCi g75)
 (m76:MthIn K D "most_holes" "Crossing.most_holes" sMh g76)
 (m77:MthIn K D "standing" "Crossing.standing" sSt g77)
 (m78:MthIn K D "first_fall" "Crossing.first_fall" sFa g78)
 (m79:MthIn K D "is_safe" "Crossing.is_safe" sSafe g79)
 (m80:MthIn K C "__init__" "Glacier.__init__" sGi g80)
 (m81:MthIn K C "lay" "Glacier.lay" sLay g81)
 (m82:MthIn K C "keep" "Glacier.keep" sKp g82)
 (m83:MthIn K C "cell_count" "Glacier.cell_count" sCc g83)
 (m84:MthIn K C "has_cell" "Glacier.has_cell" sHas g84)
 (m85:MthIn K C "cells_to_probe" "Glacier.cells_to_probe" sCp g85)
 (m86:MthIn K C "add_find" "Glacier.add_find" sAf g86)
 (m87:MthIn K C "drop_find" "Glacier.drop_find" sDf g87)
 (m88:MthIn K C "counted_holes" "Glacier.counted_holes" sCh g88)
 (m89:MthIn K C "knowledge" "Glacier.knowledge" sKn g89)
 (m90:MthIn K C "surely_firm" "Glacier.surely_firm" sSf g90)
 (S:StepsOk K mg)
 (aCa:nsIn K mainGlobals "CALLS"=sr aC) (aCn:(aC == sysModules)=false) (lC:K.lookup aC=some ⟨.type "dict",none,.dict #[⟨0,.int 0 kc0,.ref tc0⟩,⟨1,.int 1 kc1,.ref tc1⟩,⟨2,.int 2 kc2,.ref tc2⟩,⟨3,.int 3 kc3,.ref tc3⟩,⟨4,.int 4 kc4,.ref tc4⟩,⟨5,.int 5 kc5,.ref tc5⟩,⟨6,.int 6 kc6,.ref tc6⟩,⟨7,.int 7 kc7,.ref tc7⟩,⟨8,.int 8 kc8,.ref tc8⟩,⟨15,.int 15 kc15,.ref tc15⟩,⟨16,.int 16 kc16,.ref tc16⟩,⟨17,.int 17 kc17,.ref tc17⟩] epC,#[]⟩)
 (lc0:K.lookup tc0=tu oc0 #[.int 5 xc0,.ref f29] nc0 sc0)
 (lc1:K.lookup tc1=tu oc1 #[.int 2 xc1,.ref f31] nc1 sc1)
 (lc2:K.lookup tc2=tu oc2 #[.int 1 xc2,.ref f32] nc2 sc2)
 (lc3:K.lookup tc3=tu oc3 #[.int 0 xc3,.ref f33] nc3 sc3)
 (lc4:K.lookup tc4=tu oc4 #[.int 0 xc4,.ref f34] nc4 sc4)
 (lc5:K.lookup tc5=tu oc5 #[.int 1 xc5,.ref f35] nc5 sc5)
 (lc6:K.lookup tc6=tu oc6 #[.int 0 xc6,.ref f36] nc6 sc6)
 (lc7:K.lookup tc7=tu oc7 #[.int 1 xc7,.ref f37] nc7 sc7)
 (lc8:K.lookup tc8=tu oc8 #[.int 2 xc8,.ref f38] nc8 sc8)
 (lc15:K.lookup tc15=tu oc15 #[.int 0 xc15,.ref f45] nc15 sc15)
 (lc16:K.lookup tc16=tu oc16 #[.int 2 xc16,.ref f46] nc16 sc16)
 (lc17:K.lookup tc17=tu oc17 #[.int 0 xc17,.ref f47] nc17 sc17)
 (aWa:nsIn K mainGlobals "WAY_CALLS"=sr aW) (aWn:(aW == sysModules)=false) (lW:K.lookup aW=some ⟨.type "dict",none,.dict #[⟨9,.int 9 kw9,.ref tw9⟩,⟨10,.int 10 kw10,.ref tw10⟩,⟨11,.int 11 kw11,.ref tw11⟩,⟨12,.int 12 kw12,.ref tw12⟩,⟨13,.int 13 kw13,.ref tw13⟩,⟨14,.int 14 kw14,.ref tw14⟩] epW,#[]⟩)
 (lw9:K.lookup tw9=tu ow9 #[.ref hw9,.none,.ref f39] nw9 sw9)
 (lh9:K.lookup hw9=tu oh9 #[] nh9 sh9)
 (lw10:K.lookup tw10=tu ow10 #[.ref hw10,.int 1000 yw10,.ref f40] nw10 sw10)
 (lh10:K.lookup hw10=tu oh10 #[.int 9 zw10_0,.int 6 zw10_1,.int 4 zw10_2] nh10 sh10)
 (lw11:K.lookup tw11=tu ow11 #[.ref hw11,.int 1000 yw11,.ref f41] nw11 sw11)
 (lh11:K.lookup hw11=tu oh11 #[.int 6 zw11_0,.int 4 zw11_1] nh11 sh11)
 (lw12:K.lookup tw12=tu ow12 #[.ref hw12,.int 1000 yw12,.ref f42] nw12 sw12)
 (lh12:K.lookup hw12=tu oh12 #[.int 9 zw12_0,.int 4 zw12_1] nh12 sh12)
 (lw13:K.lookup tw13=tu ow13 #[.ref hw13,.int 600 yw13,.ref f43] nw13 sw13)
 (lh13:K.lookup hw13=tu oh13 #[] nh13 sh13)
 (lw14:K.lookup tw14=tu ow14 #[.ref hw14,.int 150 yw14,.ref f44] nw14 sw14)
 (lh14:K.lookup hw14=tu oh14 #[] nh14 sh14)
 :∃ fd:FuncData,(∀ (s:Shared) (us:List Value),us.length=(["calls"]:List Str).length→BindsTo s fd ⟨us,[]⟩ ((["calls"]:List Str).zip us))∧∀ base:Heap,K.In base→base.Ns mainGlobals mg→FnOk P w K mg base CX0 11 fa fd ["calls"] (spTop K):=by
 have e:=hfa.symm.trans (mg_of X G a49)
 cases e
 have B:Blt mg:=⟨mg_none_of X G b66,mg_none_of X G b67,mg_none_of X G b68,mg_none_of X G b69,mg_none_of X G b70,mg_none_of X G b71,mg_none_of X G b72,mg_none_of X G b73,mg_none_of X G b74⟩
 have c52:=num_mk X G n52
 have c53:=num_mk X G n53
 have c54:=num_mk X G n54
 have c55:=num_mk X G n55
 have c56:=num_mk X G n56
 have c57:=num_mk X G n57
 have c58:=num_mk X G n58
 have c59:=num_mk X G n59
 have c60:=num_mk X G n60
 have c61:=num_mk X G n61
 have c62:=num_mk X G n62
 have c63:=num_mk X G n63
 have c64:=num_mk X G n64
 have c65:=num_mk X G n65
 obtain ⟨e0,F0,b0⟩:=d0.get ["start","step","length"]
 obtain ⟨e1,F1,b1⟩:=d1.get ["width","height","least","most"]
 obtain ⟨e2,F2,b2⟩:=d2.get ["width","height","least","most","many"]
 obtain ⟨e3,F3,b3⟩:=d3.get ["numbers","cell","value"]
 obtain ⟨e4,F4,b4⟩:=d4.get ["numbers"]
 obtain ⟨e5,F5,b5⟩:=d5.get ["number"]
 obtain ⟨e6,F6,b6⟩:=d6.get ["numbers","cell_count"]
 obtain ⟨e7,F7,b7⟩:=d7.get ["cells"]
 obtain ⟨e8,F8,b8⟩:=d8.get ["size"]
 obtain ⟨e9,F9,b9⟩:=d9.get ["number","way"]
 obtain ⟨e10,F10,b10⟩:=d10.get ["possible","way"]
 obtain ⟨e11,F11,b11⟩:=d11.get ["possible","way"]
 obtain ⟨e12,F12,b12⟩:=d12.get ["possible","cells"]
 obtain ⟨e13,F13,b13⟩:=d13.get ["possible","way"]
 obtain ⟨e14,F14,b14⟩:=d14.get ["firm","struck","left","start","size"]
 obtain ⟨e15,F15,b15⟩:=d15.get ["possible","cells","way"]
 obtain ⟨e16,F16,b16⟩:=d16.get ["struck","left"]
 obtain ⟨e17,F17,b17⟩:=d17.get ["with_hole","struck","left","probes"]
 obtain ⟨e18,F18,b18⟩:=d18.get ["with_hole","struck","left","probes"]
 obtain ⟨e19,F19,b19⟩:=d19.get ["possible","cells","way"]
 obtain ⟨e20,F20,b20⟩:=d20.get ["counts","total","cells"]
 obtain ⟨e21,F21,b21⟩:=d21.get ["width","height","cell","direction"]
 obtain ⟨e22,F22,b22⟩:=d22.get ["width","height","cell","other"]
 obtain ⟨e23,F23,b23⟩:=d23.get ["width","height","cells"]
 obtain ⟨e24,F24,b24⟩:=d24.get ["width","height","firm","goal"]
 obtain ⟨e25,F25,b25⟩:=d25.get ["width","height","far","cell"]
 obtain ⟨e26,F26,b26⟩:=d26.get ["width","height","firm","start","goal"]
 obtain ⟨e27,F27,b27⟩:=d27.get ["lows","numbers","highs"]
 obtain ⟨e28,F28,b28⟩:=d28.get ["numbers"]
 obtain ⟨e29,F29,b29⟩:=d29.get ["glacier","numbers"]
 obtain ⟨e30,F30,b30⟩:=d30.get ["glacier","numbers"]
 obtain ⟨e31,F31,b31⟩:=d31.get ["glacier","numbers"]
 obtain ⟨e32,F32,b32⟩:=d32.get ["glacier","numbers"]
 obtain ⟨e33,F33,b33⟩:=d33.get ["glacier","numbers"]
 obtain ⟨e34,F34,b34⟩:=d34.get ["glacier","numbers"]
 obtain ⟨e35,F35,b35⟩:=d35.get ["glacier","numbers"]
 obtain ⟨e36,F36,b36⟩:=d36.get ["glacier","numbers"]
 obtain ⟨e37,F37,b37⟩:=d37.get ["glacier","numbers"]
 obtain ⟨e38,F38,b38⟩:=d38.get ["glacier","numbers"]
 obtain ⟨e39,F39,b39⟩:=d39.get ["glacier","numbers","way"]
 obtain ⟨e40,F40,b40⟩:=d40.get ["glacier","numbers","way"]
 obtain ⟨e41,F41,b41⟩:=d41.get ["glacier","numbers","way"]
 obtain ⟨e42,F42,b42⟩:=d42.get ["glacier","numbers","way"]
 obtain ⟨e43,F43,b43⟩:=d43.get ["glacier","numbers","way"]
 obtain ⟨e44,F44,b44⟩:=d44.get ["glacier","numbers","way"]
 obtain ⟨e45,F45,b45⟩:=d45.get ["glacier","numbers"]
 obtain ⟨e46,F46,b46⟩:=d46.get ["glacier","numbers"]
 obtain ⟨e47,F47,b47⟩:=d47.get ["glacier","numbers"]
 obtain ⟨e48,F48,b48⟩:=d48.get ["glacier","call","numbers","way"]
 obtain ⟨e49,F49,kVT,docT,pmT,anT,cdvT,ctT,rfl⟩:=d49.ex
 obtain ⟨e75,F75,b75⟩:=m75.df.get ["self","possible","way"]
 have M75:Meth K D "__init__" g75:=⟨m75.at_,m75.fn,F75.kp⟩
 obtain ⟨e76,F76,b76⟩:=m76.df.get ["self"]
 have M76:Meth K D "most_holes" g76:=⟨m76.at_,m76.fn,F76.kp⟩
 obtain ⟨e77,F77,b77⟩:=m77.df.get ["self","members","spacing","moment"]
 have M77:Meth K D "standing" g77:=⟨m77.at_,m77.fn,F77.kp⟩
 obtain ⟨e78,F78,b78⟩:=m78.df.get ["self","members","spacing","hold"]
 have M78:Meth K D "first_fall" g78:=⟨m78.at_,m78.fn,F78.kp⟩
 obtain ⟨e79,F79,b79⟩:=m79.df.get ["self","members","spacing","hold"]
 have M79:Meth K D "is_safe" g79:=⟨m79.at_,m79.fn,F79.kp⟩
 obtain ⟨e80,F80,b80⟩:=m80.df.get ["self"]
 have M80:Meth K C "__init__" g80:=⟨m80.at_,m80.fn,F80.kp⟩
 obtain ⟨e81,F81,b81⟩:=m81.df.get ["self","width","height","least","most","many"]
 have M81:Meth K C "lay" g81:=⟨m81.at_,m81.fn,F81.kp⟩
 obtain ⟨e82,F82,b82⟩:=m82.df.get ["self","numbers"]
 have M82:Meth K C "keep" g82:=⟨m82.at_,m82.fn,F82.kp⟩
 obtain ⟨e83,F83,b83⟩:=m83.df.get ["self"]
 have M83:Meth K C "cell_count" g83:=⟨m83.at_,m83.fn,F83.kp⟩
 obtain ⟨e84,F84,b84⟩:=m84.df.get ["self","cell"]
 have M84:Meth K C "has_cell" g84:=⟨m84.at_,m84.fn,F84.kp⟩
 obtain ⟨e85,F85,b85⟩:=m85.df.get ["self"]
 have M85:Meth K C "cells_to_probe" g85:=⟨m85.at_,m85.fn,F85.kp⟩
 obtain ⟨e86,F86,b86⟩:=m86.df.get ["self","cell","value"]
 have M86:Meth K C "add_find" g86:=⟨m86.at_,m86.fn,F86.kp⟩
 obtain ⟨e87,F87,b87⟩:=m87.df.get ["self","cell"]
 have M87:Meth K C "drop_find" g87:=⟨m87.at_,m87.fn,F87.kp⟩
 obtain ⟨e88,F88,b88⟩:=m88.df.get ["self"]
 have M88:Meth K C "counted_holes" g88:=⟨m88.at_,m88.fn,F88.kp⟩
 obtain ⟨e89,F89,b89⟩:=m89.df.get ["self"]
 have M89:Meth K C "knowledge" g89:=⟨m89.at_,m89.fn,F89.kp⟩
 obtain ⟨e90,F90,b90⟩:=m90.df.get ["self"]
 have M90:Meth K C "surely_firm" g90:=⟨m90.at_,m90.fn,F90.kp⟩
 have TC:TxC K D:=⟨c50.cls,x91,x92,x93⟩
 have TG:TxG K C:=⟨c51.cls,x94,x95,x96,x97,x98,x99,x100,x101,x102⟩
 have gD:mg "Crossing"=some (.ref D):=mg_of X G a50
 have gC:mg "Glacier"=some (.ref C):=mg_of X G a51
 have g0:=mg_of X G a0
 have g1:=mg_of X G a1
 have g2:=mg_of X G a2
 have g3:=mg_of X G a3
 have g4:=mg_of X G a4
 have g5:=mg_of X G a5
 have g6:=mg_of X G a6
 have g7:=mg_of X G a7
 have g8:=mg_of X G a8
 have g9:=mg_of X G a9
 have g10:=mg_of X G a10
 have g11:=mg_of X G a11
 have g12:=mg_of X G a12
 have g13:=mg_of X G a13
 have g14:=mg_of X G a14
 have g15:=mg_of X G a15
 have g16:=mg_of X G a16
 have g17:=mg_of X G a17
 have g18:=mg_of X G a18
 have g19:=mg_of X G a19
 have g20:=mg_of X G a20
 have g21:=mg_of X G a21
 have g22:=mg_of X G a22
 have g23:=mg_of X G a23
 have g24:=mg_of X G a24
 have g25:=mg_of X G a25
 have g26:=mg_of X G a26
 have g27:=mg_of X G a27
 have g28:=mg_of X G a28
 have g29:=mg_of X G a29
 have g30:=mg_of X G a30
 have g31:=mg_of X G a31
 have g32:=mg_of X G a32
 have g33:=mg_of X G a33
 have g34:=mg_of X G a34
 have g35:=mg_of X G a35
 have g36:=mg_of X G a36
 have g37:=mg_of X G a37
 have g38:=mg_of X G a38
 have g39:=mg_of X G a39
 have g40:=mg_of X G a40
 have g41:=mg_of X G a41
 have g42:=mg_of X G a42
 have g43:=mg_of X G a43
 have g44:=mg_of X G a44
 have g45:=mg_of X G a45
 have g46:=mg_of X G a46
 have g47:=mg_of X G a47
 have g48:=mg_of X G a48
 have g49:=mg_of X G a49
 refine ⟨fnOf "answers" "answers" (defArgs sTop) (defBody sTop) (defScope sTop) .none kVT docT pmT anT cdvT ctT,fun s us hu=>by obtain ⟨_,rfl⟩:=u1 hu; exact .of_eq rfl,fun base _ _=>?_⟩
 have G1:=ok_crevs (P:=P) (w:=w) (base:=base) F1 B F0 b0 g0
 have G2:=ok_hid (f1:=f0) (fd1:=e0) (P:=P) (w:=w) (base:=base) F2 B G1 F1.kp b1 g1
 have G3:=ok_agr (P:=P) (w:=w) (base:=base) (mg:=mg) F3
 have G4:=ok_ever (P:=P) (w:=w) (base:=base) (mg:=mg) F4
 have G5:=ok_holes (P:=P) (w:=w) (base:=base) (mg:=mg) F5
 have G6:=ok_hc (P:=P) (w:=w) (base:=base) F6 G5 F5.kp b5 g5
 have G7:=ok_cn (P:=P) (w:=w) (base:=base) (mg:=mg) F7
 have G8:=ok_bc (P:=P) (w:=w) (base:=base) F8 B
 have G9:=ok_hp (P:=P) (w:=w) (base:=base) F9 B
 have G10:=ok_ff (P:=P) (w:=w) (base:=base) F10 G7 F7.kp b7 g7 G9 F9.kp b9 g9
 have G11:=ok_cf (P:=P) (w:=w) (base:=base) F11 G7 F7.kp b7 g7
 have Y3:=ok_ci (P:=P) (w:=w) (base:=base) F75 TC B G10 F10.kp b10 g10 G8 F8.kp b8 g8
 have MkD:Mk K D g75:=⟨c50.mks,m75.at_,m75.fn,c50.kc⟩
 have Y12:=ok_mh (P:=P) (w:=w) (base:=base) F76 TC B
 have Y15:=ok_st (P:=P) (w:=w) (base:=base) F77 TC B
 have Y6:=ok_fa (P:=P) (w:=w) (base:=base) F78 TC B M77 Y15 b77
 have Y13:=ok_safe (P:=P) (w:=w) (base:=base) F79 TC M78 Y6 b78
 have MkC:Mk K C g80:=⟨c51.mks,m80.at_,m80.fn,c51.kc⟩
 have Y1:=ok_cc (P:=P) (w:=w) (base:=base) (mg:=mg) F83 TG
 have Y8:=ok_has (P:=P) (w:=w) (base:=base) F84 TG M83 Y1 b83
 have Y10:=ok_kp (P:=P) (w:=w) (base:=base) (mg:=mg) F82 TG
 have Y11:=ok_lay (P:=P) (w:=w) (base:=base) F81 TG G2 F2.kp b2 g2 M82 Y10 b82
 have Y7:=ok_gi (P:=P) (w:=w) (base:=base) F80 TG M81 Y11 b81
 have Y4:=ok_cp (P:=P) (w:=w) (base:=base) F85 TG B M83 Y1 b83
 have Y0:=ok_af (P:=P) (w:=w) (base:=base) F86 TG G3 F3.kp b3 g3 M82 Y10 b82
 have Y5:=ok_df (P:=P) (w:=w) (base:=base) F87 TG G3 F3.kp b3 g3 M82 Y10 b82
 have Y2:=ok_ch (P:=P) (w:=w) (base:=base) F88 TG G6 F6.kp b6 g6 M83 Y1 b83
 have Y9:=ok_kn (P:=P) (w:=w) (base:=base) F89 TG B c52 c53 c54 G4 F4.kp b4 g4 M83 Y1 b83
 have Y14:=ok_sf (P:=P) (w:=w) (base:=base) F90 TG B c52 M89 Y9 b89
 have G12:=ok_fw (P:=P) (w:=w) (base:=base) F12 B G5 F5.kp b5 g5
 have G13:=ok_fn (P:=P) (w:=w) (base:=base) F13 G12 F12.kp b12 g12
 have G14:=ok_cov (P:=P) (w:=w) (base:=base) F14 B b14 g14 3
 have G15:=ok_lc (P:=P) (w:=w) (base:=base) F15 B c55 G13 F13.kp b13 g13 G12 F12.kp b12 g12 G14 F14.kp b14 g14
 have G16:=ok_is (P:=P) (w:=w) (base:=base) (mg:=mg) F16
 have Y34:=ok_en0 (P:=P) (w:=w) (base:=base) F17 G16 F16.kp b16 g16
 have Y37:=ok_fp (P:=P) (w:=w) (base:=base) F18 Y34 F17.kp b17 g17
 have Y35:=ok_enS (P:=P) (w:=w) (base:=base) F17 (by decide) G16 F16.kp b16 g16 Y37 F18.kp b18 g18
 have Y38:=ok_fp (P:=P) (w:=w) (base:=base) F18 Y35 F17.kp b17 g17
 have Y36:=ok_enS (P:=P) (w:=w) (base:=base) F17 (by decide) G16 F16.kp b16 g16 Y38 F18.kp b18 g18
 have Y39:=ok_fp (P:=P) (w:=w) (base:=base) F18 Y36 F17.kp b17 g17
 have G19:=ok_lp (P:=P) (w:=w) (base:=base) F19 B c55 (by decide) G13 F13.kp b13 g13 G12 F12.kp b12 g12 G16 F16.kp b16 g16 Y39 F18.kp b18 g18
 have G20:=ok_bs (P:=P) (w:=w) (base:=base) F20 B
 have G21:=ok_nb (P:=P) (w:=w) (base:=base) F21 S
 have G22:=ok_lo (P:=P) (w:=w) (base:=base) F22 B S G21 F21.kp b21 g21
 have G23:=ok_iw (P:=P) (w:=w) (base:=base) F23 B c56 G22 F22.kp b22 g22
 have G24:=ok_dist (P:=P) (w:=w) (base:=base) F24 B S G21 F21.kp b21 g21
 have G25:=ok_ld (P:=P) (w:=w) (base:=base) F25 B S G21 F21.kp b21 g21
 have G26:=ok_sw (P:=P) (w:=w) (base:=base) F26 G21 F21.kp b21 g21 G24 F24.kp b24 g24 G25 F25.kp b25 g25
 have G27:=ok_wi (P:=P) (w:=w) (base:=base) F27 B
 have C27:=Cal.mk G27 F27.kp b27 g27
 have G28:=ok_if (P:=P) (w:=w) (base:=base) F28 C27
 have C28:=Cal.mk G28 F28.kp b28 g28
 have N81:=Mth.mk Y11 M81 b81
 have N84:=Mth.mk Y8 M84 b84
 have N86:=Mth.mk Y0 M86 b86
 have N87:=Mth.mk Y5 M87 b87
 have N89:=Mth.mk Y9 M89 b89
 have N90:=Mth.mk Y14 M90 b90
 have N85:=Mth.mk Y4 M85 b85
 have N88:=Mth.mk Y2 M88 b88
 have N83:=Mth.mk Y1 M83 b83
 have N76:=Mth.mk Y12 M76 b76
 have N78:=Mth.mk Y6 M78 b78
 have N79:=Mth.mk Y13 M79 b79
 have C3:=Cal.mk G3 F3.kp b3 g3
 have C4:=Cal.mk G4 F4.kp b4 g4
 have C5:=Cal.mk G5 F5.kp b5 g5
 have C11:=Cal.mk G11 F11.kp b11 g11
 have C15:=Cal.mk G15 F15.kp b15 g15
 have C19:=Cal.mk G19 F19.kp b19 g19
 have C20:=Cal.mk G20 F20.kp b20 g20
 have C26:=Cal.mk G26 F26.kp b26 g26
 have C23:=Cal.mk G23 F23.kp b23 g23
 have G30:=ok_ifd (P:=P) (w:=w) (base:=base) F30 TG N84
 have C30:=Cal.mk G30 F30.kp b30 g30
 have Y16:=ok_a0 (P:=P) (w:=w) (base:=base) F29 TG B c57 C28 N81
 have Y17:=ok_a1 (P:=P) (w:=w) (base:=base) F31 TG B c57 c59 c60 C30 C3 N86
 have Y26:=ok_a2 (P:=P) (w:=w) (base:=base) F32 TG B c57 c58 N84 N87
 have Y27:=ok_a3 (P:=P) (w:=w) (base:=base) F33 TG B
 have Y28:=ok_a4 (P:=P) (w:=w) (base:=base) F34 TG B
 have Y29:=ok_a5 (P:=P) (w:=w) (base:=base) F35 TG B c57 N84 N89 C3
 have Y30:=ok_a6 (P:=P) (w:=w) (base:=base) F36 TG B N89
 have Y31:=ok_a7 (P:=P) (w:=w) (base:=base) F37 TG B c57 c58 c63 C5
 have Y32:=ok_a8 (P:=P) (w:=w) (base:=base) F38 TG B c57 c62 N84 N90 C26
 have Y33:=ok_a9 (P:=P) (w:=w) (base:=base) F39 TG B TC MkD gD C11 Y3 b75 N76
 have Y18:=ok_a10 (P:=P) (w:=w) (base:=base) F40 TG B TC MkD gD Y3 b75 N78 C5
 have Y19:=ok_a11 (P:=P) (w:=w) (base:=base) F41 TG B TC MkD gD c64 c62 Y3 b75 N79
 have Y20:=ok_a12 (P:=P) (w:=w) (base:=base) F42 TG B TC MkD gD c65 c62 Y3 b75 N79
 have Y21:=ok_a13 (P:=P) (w:=w) (base:=base) F43 TG B c60 c62 C11 N85 C15
 have Y22:=ok_a14 (P:=P) (w:=w) (base:=base) F44 TG c62 (by decide) N85 C19
 have Y23:=ok_a15 (P:=P) (w:=w) (base:=base) F45 TG B c62 N85 N88 C20
 have Y24:=ok_a16 (P:=P) (w:=w) (base:=base) F46 TG B c57 C30 C3 N83 C5 C4
 have Y25:=ok_a17 (P:=P) (w:=w) (base:=base) (mg:=mg) F47 TG
 have W:WT P w K mg base C aW [(Sum.inl 9,V.ref tw9),(Sum.inl 10,V.ref tw10),(Sum.inl 11,V.ref tw11),(Sum.inl 12,V.ref tw12),(Sum.inl 13,V.ref tw13),(Sum.inl 14,V.ref tw14)]:=by
  refine ⟨mg_of X G aWa,dk_ways aWn lW,fun op ho=>?_,fun op his lim ho=>?_⟩
  ·unfold wayRow at ho
   by_cases z9:op=9
   ·rw [if_pos z9] at ho; cases ho
   rw [if_neg z9] at ho
   by_cases z10:op=10
   ·rw [if_pos z10] at ho; cases ho
   rw [if_neg z10] at ho
   by_cases z11:op=11
   ·rw [if_pos z11] at ho; cases ho
   rw [if_neg z11] at ho
   by_cases z12:op=12
   ·rw [if_pos z12] at ho; cases ho
   rw [if_neg z12] at ho
   by_cases z13:op=13
   ·rw [if_pos z13] at ho; cases ho
   rw [if_neg z13] at ho
   by_cases z14:op=14
   ·rw [if_pos z14] at ho; cases ho
   rw [if_neg z14] at ho
   rw [valV_neg (fun z=>z9 (Sum.inl.inj z).symm),valV_neg (fun z=>z10 (Sum.inl.inj z).symm),valV_neg (fun z=>z11 (Sum.inl.inj z).symm),valV_neg (fun z=>z12 (Sum.inl.inj z).symm),valV_neg (fun z=>z13 (Sum.inl.inj z).symm),valV_neg (fun z=>z14 (Sum.inl.inj z).symm)]
   rfl
  ·rcases way_cases ho with ⟨rfl,rfl,rfl⟩ | ⟨rfl,rfl,rfl⟩ | ⟨rfl,rfl,rfl⟩ | ⟨rfl,rfl,rfl⟩ | ⟨rfl,rfl,rfl⟩ | ⟨rfl,rfl,rfl⟩
   ·exact ⟨tw9,hw9,f39,rfl,tupK lw9 (vr (vn (vr .nil))),tupK lh9 (.nil),F39.kp,5,_,Y33,by decide,b39⟩
   ·exact ⟨tw10,hw10,f40,rfl,tupK lw10 (vr (vi (vr .nil))),tupK lh10 (vi (vi (vi (.nil)))),F40.kp,5,_,Y18,by decide,b40⟩
   ·exact ⟨tw11,hw11,f41,rfl,tupK lw11 (vr (vi (vr .nil))),tupK lh11 (vi (vi (.nil))),F41.kp,5,_,Y19,by decide,b41⟩
   ·exact ⟨tw12,hw12,f42,rfl,tupK lw12 (vr (vi (vr .nil))),tupK lh12 (vi (vi (.nil))),F42.kp,5,_,Y20,by decide,b42⟩
   ·exact ⟨tw13,hw13,f43,rfl,tupK lw13 (vr (vi (vr .nil))),tupK lh13 (.nil),F43.kp,6,_,Y21,by decide,b43⟩
   ·exact ⟨tw14,hw14,f44,rfl,tupK lw14 (vr (vi (vr .nil))),tupK lh14 (.nil),F44.kp,9,_,Y22,by decide,b44⟩
 have T:CT P w K mg base C aC [(Sum.inl 0,V.ref tc0),(Sum.inl 1,V.ref tc1),(Sum.inl 2,V.ref tc2),(Sum.inl 3,V.ref tc3),(Sum.inl 4,V.ref tc4),(Sum.inl 5,V.ref tc5),(Sum.inl 6,V.ref tc6),(Sum.inl 7,V.ref tc7),(Sum.inl 8,V.ref tc8),(Sum.inl 15,V.ref tc15),(Sum.inl 16,V.ref tc16),(Sum.inl 17,V.ref tc17)]:=by
  refine ⟨mg_of X G aCa,dk_calls aCn lC,fun op n ho=>?_⟩
  unfold plainRow at ho
  by_cases z:op=0
  ·rw [if_pos z] at ho; cases ho; subst z; exact ⟨tc0,f29,rfl,tupK lc0 (vi (vr .nil)),F29.kp,5,_,Y16,by decide,b29⟩
  rw [if_neg z] at ho
  by_cases z:op=1
  ·rw [if_pos z] at ho; cases ho; subst z; exact ⟨tc1,f31,rfl,tupK lc1 (vi (vr .nil)),F31.kp,4,_,Y17,by decide,b31⟩
  rw [if_neg z] at ho
  by_cases z:op=2
  ·rw [if_pos z] at ho; cases ho; subst z; exact ⟨tc2,f32,rfl,tupK lc2 (vi (vr .nil)),F32.kp,3,_,Y26,by decide,b32⟩
  rw [if_neg z] at ho
  by_cases z:op=3
  ·rw [if_pos z] at ho; cases ho; subst z; exact ⟨tc3,f33,rfl,tupK lc3 (vi (vr .nil)),F33.kp,1,_,Y27,by decide,b33⟩
  rw [if_neg z] at ho
  by_cases z:op=4
  ·rw [if_pos z] at ho; cases ho; subst z; exact ⟨tc4,f34,rfl,tupK lc4 (vi (vr .nil)),F34.kp,1,_,Y28,by decide,b34⟩
  rw [if_neg z] at ho
  by_cases z:op=5
  ·rw [if_pos z] at ho; cases ho; subst z; exact ⟨tc5,f35,rfl,tupK lc5 (vi (vr .nil)),F35.kp,3,_,Y29,by decide,b35⟩
  rw [if_neg z] at ho
  by_cases z:op=6
  ·rw [if_pos z] at ho; cases ho; subst z; exact ⟨tc6,f36,rfl,tupK lc6 (vi (vr .nil)),F36.kp,3,_,Y30,by decide,b36⟩
  rw [if_neg z] at ho
  by_cases z:op=7
  ·rw [if_pos z] at ho; cases ho; subst z; exact ⟨tc7,f37,rfl,tupK lc7 (vi (vr .nil)),F37.kp,2,_,Y31,by decide,b37⟩
  rw [if_neg z] at ho
  by_cases z:op=8
  ·rw [if_pos z] at ho; cases ho; subst z; exact ⟨tc8,f38,rfl,tupK lc8 (vi (vr .nil)),F38.kp,4,_,Y32,by decide,b38⟩
  rw [if_neg z] at ho
  by_cases z:op=15
  ·rw [if_pos z] at ho; cases ho; subst z; exact ⟨tc15,f45,rfl,tupK lc15 (vi (vr .nil)),F45.kp,4,_,Y23,by decide,b45⟩
  rw [if_neg z] at ho
  by_cases z:op=16
  ·rw [if_pos z] at ho; cases ho; subst z; exact ⟨tc16,f46,rfl,tupK lc16 (vi (vr .nil)),F46.kp,4,_,Y24,by decide,b46⟩
  rw [if_neg z] at ho
  by_cases z:op=17
  ·rw [if_pos z] at ho; cases ho; subst z; exact ⟨tc17,f47,rfl,tupK lc17 (vi (vr .nil)),F47.kp,1,_,Y25,by decide,b47⟩
  rw [if_neg z] at ho
  cases ho
 have G48:=ok_ow (P:=P) (w:=w) (base:=base) F48 TG B W c57 c61 C27 C23
 have C48:=Cal.mk G48 F48.kp b48 g48
 exact ok_top (P:=P) (w:=w) (base:=base) F49 B W T MkC gC Y7 b80 C48
end Rp
open PySem PySem.W PyProof.Rows
set_option maxRecDepth 100000 in
set_option maxHeartbeats 0 in
theorem PySem.Challenge.cw_ropedparty_s01_answers_holds : PySem.Challenge.rw_ropedparty_s01_answers.Holds := by
 w_on
 refine holds_os (r:=PySem.Challenge.rw_ropedparty_s01_answers) (q:=Hd.vq) (loose:=Hd.lz) (Xt:=Hd.Xt) (XP:=XL Hd.vq []) (Yf:=Hd.hk.obs) (Ya:=Hd.hk.val) (YP:=(kHook Hd.KK Hd.aK Hd.eK).says) (d:=Hd.dA) (kwd:=[]) (N:=6434) Hd.left Hd.hk.of Hd.hk.keeps (fun s e=>xl_of s (Bool.and_eq_true_iff.mp e).1) XL.keeps (by kernel_rfl) (by kernel_rfl) (by kernel_rfl) (fun s e=>recFacts_of (Bool.and_eq_true_iff.mp e).2) os_shapes (by decide +kernel) (by decide +kernel) ⟨rfl,rfl,rfl,rfl,rfl,by decide +kernel⟩ ⟨[.list [.int 17]],by decide +kernel,by decide +kernel⟩ ?hc
 k_fillS
 refine L2.walk_specK (r:=PySem.Challenge.rw_ropedparty_s01_answers) (k:=11) (CX:=L2.CX0) (ps:=["calls"]) (sp:=Rp.spTop) (by decide +kernel) rfl rfl ⟨rfl,by decide,by decide⟩ (fun w h Y=>PySem.W.kIn_of Y) ?F ?S (fun _ _ _ _ z=>z)
 case F=>
  intro w mg fa h Y KX G hmg
  refine' Rp.all_mk KX G hmg ?b66 ?b67 ?b68 ?b69 ?b70 ?b71 ?b72 ?b73 ?b74 ?n52 ?n53 ?n54 ?n55 ?n56 ?n57 ?n58 ?n59 ?n60 ?n61 ?n62 ?n63 ?n64 ?n65 ?a0 ?d0 ?a1 ?d1 ?a2 ?d2 ?a3 ?d3 ?a4 ?d4 ?a5 ?d5 ?a6 ?d6 ?a7 ?d7 ?a8 ?d8 ?a9 ?d9 ?a10 ?d10 ?a11 ?d11 ?a12 ?d12 ?a13 ?d13 ?a14 ?d14 ?a15 ?d15 ?a16 ?d16 ?a17 ?d17 ?a18 ?d18 ?a19 ?d19 ?a20 ?d20 ?a21 ?d21 ?a22 ?d22 ?a23 ?d23 ?a24 ?d24 ?a25 ?d25 ?a26 ?d26 ?a27 ?d27 ?a28 ?d28 ?a29 ?d29 ?a30 ?d30 ?a31 ?d31 ?a32 ?d32 ?a33 ?d33 ?a34 ?d34 ?a35 ?d35 ?a36 ?d36 ?a37 ?d37 ?a38 ?d38 ?a39 ?d39 ?a40 ?d40 ?a41 ?d41 ?a42 ?d42 ?a43 ?d43 ?a44 ?d44 ?a45 ?d45 ?a46 ?d46 ?a47 ?d47 ?a48 ?d48 ?a49 ?d49 ?a50 ?c50 ?a51 ?c51 ?x91 ?x92 ?x93 ?x94 ?x95 ?x96 ?x97 ?x98 ?x99 ?x100 ?x101 ?x102 ?m75 ?m76 ?m77 ?m78 ?m79 ?m80 ?m81 ?m82 ?m83 ?m84 ?m85 ?m86 ?m87 ?m88 ?m89 ?m90 ?stp ?aCa ?aCn ?lC ?lc0 ?lc1 ?lc2 ?lc3 ?lc4 ?lc5 ?lc6 ?lc7 ?lc8 ?lc15 ?lc16 ?lc17 ?aWa ?aWn ?lW ?lw9 ?lh9 ?lw10 ?lh10 ?lw11 ?lh11 ?lw12 ?lh12 ?lw13 ?lh13 ?lw14 ?lh14
  case b66 | b67 | b68 | b69 | b70 | b71 | b72 | b73 | b74 | n52 | n53 | n54 | n55 | n56 | n57 | n58 | n59 | n60 | n61 | n62 | n63 | n64 | n65 | a0 | a1 | a2 | a3 | a4 | a5 | a6 | a7 | a8 | a9 | a10 | a11 | a12 | a13 | a14 | a15 | a16 | a17 | a18 | a19 | a20 | a21 | a22 | a23 | a24 | a25 | a26 | a27 | a28 | a29 | a30 | a31 | a32 | a33 | a34 | a35 | a36 | a37 | a38 | a39 | a40 | a41 | a42 | a43 | a44 | a45 | a46 | a47 | a48 | a49 | a50 | a51 | x91 | x92 | x93 | x94 | x95 | x96 | x97 | x98 | x99 | x100 | x101 | x102 | aCa | lC | lc0 | lc1 | lc2 | lc3 | lc4 | lc5 | lc6 | lc7 | lc8 | lc15 | lc16 | lc17 | aWa | lW | lw9 | lh9 | lw10 | lh10 | lw11 | lh11 | lw12 | lh12 | lw13 | lh13 | lw14 | lh14=>k_is
  case d0 | d1 | d2 | d3 | d4 | d5 | d6 | d7 | d8 | d9 | d10 | d11 | d12 | d13 | d14 | d15 | d16 | d17 | d18 | d19 | d20 | d21 | d22 | d23 | d24 | d25 | d26 | d27 | d28 | d29 | d30 | d31 | d32 | d33 | d34 | d35 | d36 | d37 | d38 | d39 | d40 | d41 | d42 | d43 | d44 | d45 | d46 | d47 | d48 | d49=>refine' Rp.defIn_mk ?l ?c ?k; (case l=>k_is); (case c=>k_is); (case k=>k_is)
  case c50 | c51=>refine' Rp.ClsIn.mk ?pg ?hd ?po ?sa ?mk ?kc; (case pg=>k_is); (case hd=>k_is); (case po=>k_is); (case sa=>k_is); (case mk=>k_is); (case kc=>k_is)
  case m75 | m76 | m77 | m78 | m79 | m80 | m81 | m82 | m83 | m84 | m85 | m86 | m87 | m88 | m89 | m90=>refine' Rp.mthIn_mk ?a ?i (Rp.defIn_mk ?l ?c ?k); (case a=>k_is); (case i=>k_is); (case l=>k_is); (case c=>k_is); (case k=>k_is)
  case stp=>refine' Rp.steps_mk KX G ?e ?l ?l0 ?l1 ?l2 ?l3 ?l4 ?l5 ?l6 ?l7; (case e=>k_is); (case l=>k_is); (case l0=>k_is); (case l1=>k_is); (case l2=>k_is); (case l3=>k_is); (case l4=>k_is); (case l5=>k_is); (case l6=>k_is); (case l7=>k_is)
  case aCn | aWn=>rfl
 case S=>
  intro K H xs a hO hwi hask hx
  cases hx with
  |cons h1 h2=>
   cases h2
   cases h1 with
   |lst hs ha=>
    have e:=L2.ints_dw a.1 _ ha
    subst e
    have q:((Codec.inLen 0 16000 a.1 && a.1.all (Codec.inInt (-1000000000000000000) 1000000000000000000)) && true)=true:=hwi
    rw [Bool.and_eq_true,Bool.and_eq_true] at q
    exact ⟨_,a.1,rfl,hs,(Codec.inNat_iff.mp q.1.1).2,hask,fun H' p hp=>.lst (L2.SqL.of hp) (L2.dw_ints _)⟩
