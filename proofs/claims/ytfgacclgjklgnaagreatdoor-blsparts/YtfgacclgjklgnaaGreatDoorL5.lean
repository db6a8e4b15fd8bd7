/- L5 -/
import Derived.Test.YtfgacclgjklgnaaGreatDoorL4
import Derived.Test.YtfgacclgjklgnaaGreatDoorL1
import Derived.Test.YtfgacclgjklgnaaGreatDoorM1
import Derived.Test.YtfgacclgjklgnaaGreatDoorL2
import Derived.Test.YtfgacclgjklgnaaGreatDoorQ1
import Derived.Test.YtfgacclgjklgnaaGreatDoorX3
import Derived.Test.YtfgacclgjklgnaaGreatDoorX2
import Derived.Test.YtfgacclgjklgnaaGreatDoorXW
import Derived.Test.YtfgacclgjklgnaaGreatDoorM0
import Derived.Test.YtfgacclgjklgnaaGreatDoorL0
set_option maxRecDepth 100000
set_option maxHeartbeats 1000000
namespace Go.Proofs.YtfgacclgjklgnaaGreatDoor
open Go.Proofs.Tryz
section
set_option maxRecDepth 1000000
def CST(q:Zp×Zp)(Q:W2×W2)(e:Bool×W2×W2)(st:Bool×W12×(W2×W2)):Bool×W12×(W2×W2):=
 let s:=e.2.1
 let R:=st.2.2
 let c:=st.1 && decide (ml2 s (ad2 R.2 R.2)=ad2 (ad2 (ml2 R.1 R.1) (ml2 R.1 R.1)) (ml2 R.1 R.1)) && !decide (ad2 R.2 R.2=ze2)
 let f:=K12.mul (K12.mul st.2.1 st.2.1) (LN R s q)
 let T:=E2w.th R R s
 bif e.1 then (c && decide (ml2 e.2.2 (E2w.sub T.1 Q.1)=E2w.sub T.2 Q.2) && !decide (E2w.sub T.1 Q.1=ze2),K12.mul f (LN T e.2.2 q),E2w.th T Q e.2.2)else (c,f,T)
def CRN(q:Zp×Zp)(Q:W2×W2):List (Bool×W2×W2)→Bool×W12×(W2×W2)→Bool×W12×(W2×W2)
 |[],st=>st
 |e::r,st=>CRN q Q r (CST q Q e st)
def SLP:List (Bool×W2×W2):=[(true,(zp 0x15a76ee3d8d1c3451005d56067cd27cf7598a85f81c23cd926ad0ec05ad6440f1df034cf36701a5831c9fb39250e2ea9,zp 0x16d96e785c797fb5d6afcb1400d7656829a6a71c42deb7ddce5cd2ccda4704dc0e4b92b69009367bbf6e6aa19488df66),(zp 0x14b92565b748c30f253912c6cf3aaa45c2b370e810ea9361db7b84172cb1e68ddd09eb1296e0f84058018a4538d64e8b,zp 0x3c50d0829bdc305ff694cc9bf914addbdcbe307142bf7cc7b8d9115b96656327dd7978009cdcddf4728a38086aebcd7)),(false,(zp 0x56ceab5d5d994dee0ca07fc0d41aa908b1a833b94e768d2dec05cffe4a869aed2a64ee86a72f085ee4e78bd4c2aef8e,zp 0x39b596a976f556e5ea4016a3111e14b674a67295a242cf3b343a6878db6ec20bcac1275d23aad6cd3e84e398a4e7bc8),ze2),(true,(zp 0x6e3ef02d1a04e74ab468f6e04f007b067140de16796e93717f97204641356999f8abc87a7d6c3a51d2dc5c2080aa3d,zp 0x1bd56d5682c8e27f4e58d1fe16609b948cecacbf47561314d3adbfd218516e28b5be780d59a6e961956b585b6151749),(zp 0x8ecc09a9c1f157a41ff8574dbd225e6d360104b08b70bcde984dbdeecb87e54d15afa1ad4d82ecc86926478060abf07,zp 0x1459dcc20ccec09d6ac723641fbd91572a9f1c1cccb841f8f081b995baf77ded82e6c1ee979b5618adb99987cc3e887f)),(false,(zp 0x75707a467e7543c28370330bea9b6e4adf41fa1060713eedb760c98b7aad959e5dfc28db5abe92a46d0ff04a4205803,zp 0x14061839f139644bb20e864718cfc9c1ee8960c06ff2c240598a8a6da7ed2bcc091f594d8b0715d2f6a16be8d5828197),ze2),(false,(zp 0x1deabfaeb3374b50119ecb98148910d6004895792caa88dad948685eedfe9d3ac7315ff9bd8fa7a943e0e3a924e7492,zp 0x7c9b05e8adef4de506459f7be98bf07cbd25fe6f4ac154f7c01f5d8a4b9368fc9cbb8ebfedf28954ae85d6e9f58c709),ze2),(true,(zp 0xee6eb50b6c77d09551c6a60826f728738a490c04918351790b28f2aca89efec977f5d8be5ab1530cd829c00c02bb5ad,zp 0xfe2b8fdab71a2b128d2ad1b08e43b756d77e33ad8d6a444a32fb2ef9c6d1098adde218e3fb06d66bf9f7d4b7015a6b4),(zp 0x14bf838fa391c4a090ebbbe743ae2a27fa167025d88ff625b3bef3953ab3e70c52b7f1fa0e81fa12d05c20409b6ab80d,zp 0xf45e1251275798ebc25a384129e9223de8b300c58513dc4d4e26bb101a87dc37eb1f2ad58f5ce986c824b89b843b64e)),(false,(zp 0x15f5f0afe4eeb7545fb13eb055c6ad903c2a3e4b9f14a8dae81217db1696daa3753ccd844396189ffbd89d01fe27fa5b,zp 0x1040f087e9a0b6633fa13692b8f5f46e2bd5fc15d81b368ac9d2464eda778b0051c1027ed3da9931ffbf361f326b7282),ze2),(false,(zp 0xf10733fed03fc5b7ae27fc457630dce3b4db45cbad696a6351c7771105a0a1096dd87f04527a34a70ec377ccd63a5b2,zp 0x855b8b1eedbf578f7498f370324634590aee6093dd239d9306991a8af53fac94e1e9b5253a208df401e3d6bf657857c),ze2),(false,(zp 0x17900cb270764782b3eca3d2ec46a86181ef1ff2f83172010bc299acce5e8da96b6b932d6c92af226aa27e2cbe8fae21,zp 0x1be7df7094ce56532653ce2da33c37fe337917d32826e1bd09104615d27b1dba405157c82358801a5440afa7826f03e),ze2),(false,(zp 0x15ed1256df8e5e5ca95b56c878630a1ca624fae6d5770503fc7cd3706f331af3de61fabf6cf96397e7b79f2fc8c8275d,zp 0xf5886abb33616f07cfac605cd5194bd83d804f9da8e5cdaffa3eb442aaeb1342a8a3887ee76aa06cc2a711c9ed0f30e),ze2),(false,(zp 0x249a870907df1494e56fc219e01fde22386755f816c125f4c2cdefe8611811647fac337765ce308dd13ea9ec917f81d,zp 0xa59546d0d9d0d18614e98790bdde01f23d77cc2219a64e16678659f6f9ca9e64f594e30c3cd52b28123518842661348),ze2),(false,(zp 0x3ca74026cf32fba56ec4ffaf56bfc4d589fd5479b90e9a3832640fbf5ff16fd5c8661358f86bbd730aa1df76e95257,zp 0x16f491b5bd383da7e70c0012e06dce324741a7e96cd8fccf402fb94e1c54fc0073a49b0577775e0ba37cd47da598900),ze2),(false,(zp 0x9a76bae205af60fb63330d38d4d0d00c4d2739ae3a0b1763a9bcdec2fe60921bf629abd453bf5d35812bbf0123c972a,zp 0x79042a88c84c694ffd3fa1257cfc1f1da9301aff5ef309c649bf53444907381a7d0f976a5e2fc320bd337a5e6bf6e59),ze2),(false,(zp 0x135ff64b4d73a3a2d0f886b2eb84e8fad6b7625c837aa2728eeaf2f380047dfe3a21b11ba36890bfc74afe64e9f3840c,zp 0xcc7efdc19164223dbcb0b43e4ee3c4f4c650fbfe5a0a3700cd16a519987e4aabf6bd8d16fa3e40ac2853a97b01176dd),ze2),(true,(zp 0x148a5374166cf336bdfb590ab3e98a0f2d52eb1fc8addbd73d021e6c59ff8b91a8fb6bd02a0d320eaaf52d68933508fe,zp 0xfbfa5d5aa28b0148c5da91a16d59eff4dc469e9a00aa1e6c9128ca3eaf8fb765006eba3df1bbeb0847972fc9cc9f5ae),(zp 0xd75df1478e683d022e71dda20b2ee156e2703ab722d3d6699c526b1363aa3d7edf86279a9db8b55b3ee3937fc331282,zp 0xf657335d9eabb7551b40995f1aed0135a3006438f62b0aa29f3faebba16ed6dc4cf9025d255e0b22ef5ea34500caaa1)),(false,(zp 0x1137f470c8f7d00baa56e5c03e76ea8acb143c96671cbc65033e67ed9f2b5e180252357114e4f467f4709129c1d6d6d7,zp 0xf23701cea5719c6d8b0d3f3bc8572953d8f42a55fe9970085a5304db0b3422f71d7ac93a2a95cfa92d0088ab1308e85),ze2),(false,(zp 0x373d7203575fda92e7b4b0239b7c7695d2524211d5341f332c9317a9c538a1808d10350e8ab375f9e79671f77c33b38,zp 0x7b03ee28e327f04166f5075f657d148ed56fbf731787b28e9d5746328bce07da2a04f4154a74ef22bb2c45a0f0992be),ze2),(false,(zp 0x18b70eb629a79ff3f983498518b16faf0521c1c5a11c352341629374ff0d1ac17362c7944d2b6e4cdcfd83a0692003b0,zp 0x11fa0abe9f21dc673b14d9174289133e7279c670978cd5690526f609b923d7ba3b37b63cf6dd615a649c30b33d8b88ac),ze2),(false,(zp 0x2fc21e36ad4d0da0a00add9bd428c9c44f9a83980265ddd5cac54906e73bae3b43599982d6310ed50636162786d1b75,zp 0x2b70c4ecc512e5b7a263f208e2d6c8495568d22744ab3f376045a0b6f715c18ef69c37a80e8a4f63bb295c1f909c9f8),ze2),(false,(zp 0x10b916005fc2476498beed417afa88358fa085d4db1d9e6f864b49b4b96dc11dcb31a6b2f313b674fee5c83040549617,zp 0x185827ff9e3c833ac46e1e1674a0ba0ae49290dd243bdc6145d1d4d76b0b03b8d7da125b0a5f1bacd2bc2f38d4e1a34d),ze2),(false,(zp 0x1274aa625858db0bb675b3bfaf508b2248a1fe6ffc5d18d0da3e0d01e0bbb52a301585cf3ce32e18da41a2016fbf41b1,zp 0xcd9b76612194b440cbd9c67af3784151a3a1a7585c177cf0df8603dfa938bc22d0aa98e4cbc0be362614fff6f6d4898),ze2),(false,(zp 0x232f7c41bf2d0ca9a4a656040864a9ec51fc3fceddf7498e96b0c22d39fbbbe7f55d6bc35a50965750c7716c237772d,zp 0x126b7366a9ba4cdc1648b905eb2d53ffa24eaa0527809305911e6efcf7cc8f0983f3a122ebd5d6880bc93e525c5283bd),ze2),(false,(zp 0x3c52126f27d2dd758ab077088f758a89df448c1dd45282d9c2237332a12d63f617991e090b1d3aaedd7ae3ae5ef62ec,zp 0x19ee364564c01cbdf0bd4257877b0d7e053d12f91fa49c91b79fc38b4398e2af5a4ac3f48bf85f2a28b11ffbcc48f29d),ze2),(false,(zp 0x287b1e39767a3c2d102a8257d4c97a8e9d64c41cf2dffa1ce9896e5addb637375420be149369971c3fc33245bb7b9cb,zp 0xdccc3a8b263abdc2c1112a2ba4e1537236425a49e10a76b09b6128f5e000427659557e16f6e6c10c2da68b535025ac5),ze2),(false,(zp 0xeba32ca0fdf04b16e700d02d09be055097f3f4285b74b299e633711f24267eeff96b84c9658e94dff575b044fd12535,zp 0x1853f7c388088cef95618ee7fc016b0e19f5a9dafe6150af099ff3b68fe53867aeee330edac31a776bf2f2a7eb8d07b1),ze2),(false,(zp 0x10e5f821e745ef290f77339938e8c939bcfc597914fa0bc4ea7d0b2339e762ea1d7417bc1393c1940f25665663934fc8,zp 0x14df29fafe098da44c7fd336e97eb8687dab2a2a640c57f41257c93b17f3e38108e6f373fb68057499c7406aa1ace48),ze2),(false,(zp 0x10ff70c91cbb8869a0659bf2337805ebca15d19f40277942937c0d4560eae2eee4b7ce1e54863ab6d50bc9ff4874b6e6,zp 0x1951ff3142b9a208e5e69e5942f145b0f85554ee195ae299cddbe3decddda92adfd9039a7b3cfe640c29faece9a85e53),ze2),(false,(zp 0x15d2f6b35415870ddc7054f2e32a1465866e01898f1f3b142c02b4ccd505fbbb8d8bd06421805f763874894483dc214c,zp 0x183abed5b2d1d128fa596426b89ca852d2ba8b3590cd530181c4e72fdd8802ef73ab15eff6749d4bc9865ee9e261110a),ze2),(false,(zp 0xab36c91eeeaabb24820b390406d92af351a91a43b294110a69e73a9a0f2894ad32c28d81f078a90be515d55a39025dd,zp 0x1029fa62305109a4d20176b9533e34319846e866ad7ddd36f64973cbec18695bfc945495873b5a72e8ea0e7d255b970a),ze2),(false,(zp 0x8bda1d762c986632aeaca1e09c08bb4fe0abcaefc921a404b66f01a40c86e83fded68478deb02d48f2ee3be7ae899ed,zp 0x6d4fe75b0153bdec12dba827c67f5884f061f219cb8ff55faddee2a55b5154b35e2696672be08cacb4795f5ddd8497f),ze2),(false,(zp 0x5a79df85b0a96adf6e2dab8a322ce58631513aed92ce0df838145c7842da8419fcaba0e89eec90cedffb5559d9f7cd6,zp 0x11b7c924610a8268c34b8259fb3d98acbbe375c161f9d2a8712f911d31ea73387b467687f36133a552f9211634fe2feb),ze2),(false,(zp 0x1971f0b4a71e609b35922e78337b308d7d37a5e715e2c6a7544aef13d7757e76ac4a6a2ca05df784a5a683833d2e1464,zp 0x503aa962b29d72a5d9f6cf2771a45a92c45f43bb070b7fd3fe5162dcc95efeedb645acb9afd8643829c2749745e919d),ze2),(false,(zp 0x1657a4b33e1400ef6e296282ea313e60d4b8240679b0175efcbc9d2df3136cbd1a372ac4bb42fc51b2f0d50a3d7a6796,zp 0x10992497f5f8bf44511213229f6a20404576105e15a4930cab44b72c1fc2f89b5eaa0345af91b402ecc6cf1a742796cf),ze2),(false,(zp 0x16691c1bdf57ba041abb3d97c8d34c6b4580edfc55e023b1234a9695204bd44f55ea4de60e51e461db9c85f42519fea6,zp 0xcfbf5ccb325675b1a3becefdee4fe1d3c64b3fedec5632647f7df16fff0877b21676607a81022cb0b3b0c523ae71819),ze2),(false,(zp 0xe743528ce0c94e1a76f2f6006448cecfde912a7d2029dbcc74774ca1af660eaed4d832930d36077b6d0262e218111c1,zp 0x133d21c52017365921207d63c8fb346621601764fa91b40acd681358d077b827cc148be2e1f8a574cee0dad622d6fead),ze2),(false,(zp 0x1902b1e10713c8d95829b014d6b5d3a93563b2103c29cec1e7983befc104f7bd4886ad3a08f8bf2310745715d8e60675,zp 0x142c2105c569b0e7aee457f14605027ef09f9b7d03fcc1c2c81c0dc22eff61dca36ea27f392c934ad398e9471a2a3e6f),ze2),(false,(zp 0x27b1b3c904791e3fa942dcd803b24ff12a9cd7524a26b87c8dd9dfb56ea54ca5c9d26e68acd42eff277e12a1c665cd8,zp 0x162f5c264c2d2728aaa1f652ee6cbf6da2000115b0cca0d89754d630e027f9217dd0fba67a880435688221e820d4164e),ze2),(false,(zp 0x13a3cf500109646aac4d69e33e86b7943ceda2cc678e671964192efc9a09299ad173b34e4a074239eac7dc93b8113ddd,zp 0x12f734fc3463dc7adb90dccbbaeda04445ec73fe1fd859d6076071bd0d45623a4cfe964789c20af4b5a694d4d6d9d45d),ze2),(false,(zp 0x65c82633f9d4d20c07f6ad4f79c2172e21b91ba79a5ea2dd1453a4587d6c2ca2341043e1ed40e3c2cfcc055cd4958d6,zp 0x18a18bd0be954bbff600c7c1403276e7635ed1cd34473d3d086bc2e62775af5eae61d9aac8398341fc07277f183c17d5),ze2),(false,(zp 0x31ae02e34d7d21957899dbef96a7955cf8a3345e89477c101ffc8c27a2046327376e250e6882416d7bc0be138e4eeb2,zp 0x1900bee131450e7d7a914ea489fb49e1a36591a6b189f964d0a0095db108dfd24e92848f148232d34a8da37b7adc99a7),ze2),(false,(zp 0x141accc8970ace156fe95a366883383b5a445ca79fc407ee3f3bd12ca9ef48ef6199a7f46231a3597b09b6d5fda5c712,zp 0x18b35a8fd65ba4cbd734a0eea368fc9a21efabd91ace37d98ff3e0c3028ea8f24ee6fb30e0c805067330b20430c585c8),ze2),(false,(zp 0xaaafef3c4298542248b3a58135c684f9ac0e0a34315e044a7d66db543d3c6a626f79dea7ee6a5f3ce669de80b52ba42,zp 0x13d96385b510deff2f4d1d32ee0060a937926e9b6d6adb90abac56946f0699334fa765e60e0b267ea1f8e8dc2b83d62e),ze2),(false,(zp 0xfc955cb99bde258d876019716b9fdec9340c8f3aefa561ca412df73ae5febbec296a5fb95db0469c00d953ee476c048,zp 0x8fd02881a5331dfb0922a3b31368cfad1bcb8ef19b9d382fb88180286d20648b40806c083c7d7a804031b10c844d0cb),ze2),(false,(zp 0x5b8f08ef767ca4cf5f36622b89e509fc5decaef9cb221f15b64b681867d0f5505b9f13931f476324f857ca9daa71d3f,zp 0xa3b4aea7c32a8fc4d9a662b03710c6daa7cac50a8ca6de8554f99004f5b1f2a21b026098f44b24a23750c8f0fa6270d),ze2),(false,(zp 0x9a64184b516425353d3342b7f1e2595a7bf3cb9644dc3a23ae401e3a2c43950dd3e14a5813cf8d46ec722731cb2e790,zp 0xaf426e78303a8cf5a43520e362a12402d4cd3c50c5a5bc14b9c5ee3da9ae172d5612c391be4ad4c913b7f23ef8afc45),ze2),(false,(zp 0xdd9144f8c45e6091a6714d772bf4739ae7b1a8652c823a2aca6cfb5457ca1adc99138fe3c31209a4897e0f66a542078,zp 0xda6ef8b0ede3a09d1a5c00b21acf101ca7ff6cd9129e67a30ff4bdf679bd4a2b87fa34cc8942e9d5abaeec4938f2308),ze2),(true,(zp 0xea4a92fd6a7fada6c37e836f596f65d4b4a37bb57a0834973113079387e96d6d637efa84423b0a3a6bf47efd924c3dd,zp 0x5b7be247f2850b9608773bab9b9db45ba9d0959b3bd8de5770a36eaa83f3dcc1d95b34760a0823f91354f28328297ee),(zp 0x1142615b871d4c4963ef8ed842f9a579c71af04bbc4b9297c161b22f8b6c5a58a8fb3af7ec52a6b7026c9e97f3d6b0f8,zp 0x78e5e678d7c7e2754875c536346f6c41cfb8f5fdb95af2c9163b27340c90d31ae05f3aaa202c3156a09893b72234b5e)),(false,(zp 0xa0bad126c265d46d51689b72d7dd2e4d3d0945ac3d9cb888b9250b2bed82359a757e1269c4a4d3c7bb2576aeac0337b,zp 0x133a4335f59c0259f1a3ff195a51b1c4671888accdca74afa50259b7484098611c2cb9fdf65a98dff64d2a0fc947454f),ze2),(false,(zp 0xfb69c6a2cbfc9dfb9b0142745ea7f0421cb2dd4e5b4ed7b1142cd575c788d8d19a24ba9dd3830612c58d544327ca0f0,zp 0x10635d3a601f92ab21801ab8e85be88d689d67e6e9835268f7cee1313a095fe9e31b7072875ab3c75d3a4e43d10b2503),ze2),(false,(zp 0x28a36f542a28f6997a811fc2ce6cbed2508c5d828082677745110cbba12e028cd54150ccc1f58585e1d7b5bd45c4c1f,zp 0xac2c40f46751f043fe2833bd583e9bfd967becef21bf75f65d407bf06f076619981fe2e541d567dcc7fbea97520cd94),ze2),(false,(zp 0x125e8f976f7536a2e85ea3cfefd8d2d0063990aea5570748e35370c03766b0439ba9bc0cf8c9e8b4405badfa94226735,zp 0xc0299d504b8b7bb5ff23b7fce15918bb8dbd901b96858640d5946aef2f36a4cb42aee9b8f2d3d1bd687824c71ce27fa),ze2),(false,(zp 0x182115eb42220d34f08e487de33ed175b6d1a029dda7c9aa05a1ef8d1d2c315dd8bc62125863cf017f4f31c0054a3612,zp 0xfc2db9cb25d08faf7c8327f5daebc21a409de8913242d73b8d9e10bc6022a0994e39a0b90bfad204b39a3cbcac7b4),ze2),(false,(zp 0x159ff2806d40ff15099d52045de59d8956f5a84da299063ef6c216059e7a2a6b1a09d23cd53473f5ac7b5e99de412ea4,zp 0x69a7d5ac5a38cce584e0b0f05b60b25f325eb68e4cbd45d0014e4ca22ebdbc559a20177fdccb0d7c9716c23df3ced8f),ze2),(false,(zp 0x142182d337d4bdd0a9dc0152289c80bcf75761bc030bda9dcfd112580006deba5077fd8a5edf9450f71e9104f1c374e9,zp 0x113f465ca312058e0cd541d6b90435a9e7260873c34a0cd455f40359611c687f96c91dbee3f1affdcbbd3809a6881f8e),ze2),(false,(zp 0x10933118bcf1940615957a6c1c7bca0054ff60c0db1566767322d2c5cd33e33d6fd2e0ca2639eca99f5b1f6e6d095faa,zp 0x14ef91f0b47d2bf1313ba159c090bf9a071c2af83528b3613d49af8c8914a7628366761443e0d74cf14359d83cc60326),ze2),(false,(zp 0x5cf357e8473bba00386d2380ef2bbb3e118498031e2471fae5017af4c09ed67c5c2e5257a3deb7872768f839060087e,zp 0x82938f41814229b1224b32b425aed5972aa5f4b4d21ffc7a3913baa2c3f8f7499ac76a63b373a0d0a649113f5c7b2fe),ze2),(false,(zp 0x13847679c97ef8978b3f64c9ba622ef466154b88c6206dc00a65c7c83d9e863106be2e6e6acbdd11b2e3bf3c4e9a8fc7,zp 0x5c65be3c6a8b37e95aaa4725d46595304e94133e1524dc41b86d1ea5e2cb0e5656952930a29270a27fe8eff7ff52747),ze2),(false,(zp 0x78af2f8549231aa92bba1b374d54bf4748e38d3b2c782b3c9d8a7b7d87389e25b856b97ee48f089c7a4594a201092eb,zp 0x157a7e87571314c4eeffcc641151b627d67176b268c6b18bf425406455688e07fe496eb261acc46ca422be84be4fee75),ze2),(false,(zp 0x8f022244af0b719146e8cfb7409e84a31ef57e217e3d45daa059fc26f53a4b15d861e5d1b9ff207335fcb7b28f48654,zp 0x72c117c18b8dfa89321c27cec88b9f86c99799b380ebac98fde2d5c9ef41c16128658961fa9d79eb0320e586c2d096a),ze2),(false,(zp 0x86675ec3781ecc255b9b8f657bd72dc32622552c01c3a14efa70797ab04d5777f18cae0d8934218abbe5eda42e0374,zp 0x99b7b955ea60c02306dd0199067fb6cb2810aa19e5e838d4d7d18f24dc5139d8829c6be0db3cdd784259d6f00a05188),ze2),(false,(zp 0xf16056dd2e8b5f8240d4ac75aac0cfc9b43343826136afbd4f0931c31459109811008d17464425eeb75a1d3a3486fba,zp 0x134957b7abe963c5d074abc911c5cbb3ae17332e06f5b415438805278ea9e18b001cf7daee0993ef125a22747400b5ea),ze2),(false,(zp 0x2d6c8112234d7f18ea478ea7df5eabb84672fab4d4a6e1014e0585cd696c72e9adb4736ed72eccb4e30eeaf3b992446,zp 0x444323d14c7a3549b9f6b2738ce286aeea4511ddcb23d59ff0488c63a739029f85aec2295586dac212579b39f39df97),ze2),(false,(zp 0x65fb0c0d47de8795557bd2f9f4eb741ac78b510ccf452abbc66726ddee31b37d058d7e5bdda2d3c31051f4071ae2945,zp 0x7f9fda3fa03c5295720441d73a813ffff40ee810a12214b0d4ee64da91ea67b8a4525b4b9c37518dd4a05df7a4d6dc1),ze2)]
def AH:W12:=(((zp 0x751557ccd0e568de8f2b6c9f8f0c3bcbd02d177144b44df610160b7a5c9df7b7084529642e3f9f6c6a0c093f01edb9a,zp 0x3a018fa8cb36c23248e299ea03286248eeed1f2c477cfb32d68411a7a4c39c8741d2f067c4dd900046c11057db6c575),(zp 0x687e3f086b7fe854eb89ec494de48b9e990f2ab5c5fe133e1208a380c74369889fb3d2a78177955e698be2dd2fb45c3,zp 0x3acc6bf13ea3ac3b01a5c03abfef0c65cef58c07e598ffa21262310c5c2546736e1ee12c6dae45c57cf14fdb4e6267a),(zp 0x7dda3a1efb947cc5d9b7061a85915bf24fb6353fe36d140edbff59fb68939a96ee5b7ab1a42c199edce862e308ff8f1,zp 0x10cc233519fa1da957cef3a4a301bf377e55ec0d97992861f1b11d171adf7408eff43fd7b9da15f8b4457b89b4436c89)),((zp 0x561a60b89349ab4c1588e00f947f89e0399f1db01e296680a8676d7a09c1aa0228137835f3785c862c07a51633e9827,zp 0x942697638f329bab144afd26647be9054081e8cbded9967d18dc6743108dd74a3c9192e0144f5f2e49b3c2a6dcc8031),(zp 0xb236d849561bab4b1f77b57cb239fea2be7fe053dad9633df74103a97aea745b282344eb89cefc69cef32172fd991ca,zp 0xb72354a46c6ab3f59daa873619913479319807d21d60483fcac8615a4947d9e963d2162b242d34a16a3b267671044b2),(zp 0xecae24d88e6a1c653c20e9a46d901d9cb46546b243182a91bfdfa4742a7e961ccf3ee8c5babca70e8635cfd91b9e4eb,zp 0x19a1163b48107ce80131adee28ba723847b582239eb55a22663968b12bdbc72c03f16a1ccd75cc6e8b84f06847c637c6)))
theorem yv:(CRN G1p G2p SLP (true,K12.one,G2p)).1=true∧(CRN G1p G2p SLP (true,K12.one,G2p)).2.1=AH:=by decide+kernel
theorem Qp{q:Zp×Zp}{Q:W2×W2}{e:Bool×W2×W2}{st:Bool×W12×(W2×W2)}(h:(CST q Q e st).1=true):st.1=true:=by
 obtain ⟨d,s,t⟩:=e
 cases d<;>simp[CST]at h
 ·exact h.1.1
 ·exact h.1.1.1.1
theorem Dh{q:Zp×Zp}{Q:W2×W2}: ∀(l:List (Bool×W2×W2)) (st:Bool×W12×(W2×W2)),(CRN q Q l st).1=true→st.1=true
 |[],_,h=>h
 |_::r,_,h=>Qp (Dh r _ h)
theorem Si{q:Zp×Zp}{Q:W2×W2}(hQ:E2w.on Q)(e:Bool×W2×W2)(c:Bool)(f:W12)(R:W2×W2)(hR:E2w.on R)(h:(CST q Q e (c,f,R)).1=true):MSW q (some Q) e.1 (f,some R)=((CST q Q e (c,f,R)).2.1,some (CST q Q e (c,f,R)).2.2)∧E2w.on (CST q Q e (c,f,R)).2.2:=by
 obtain ⟨d,s,t⟩:=e
 have dbl:(ml2 s (ad2 R.2 R.2)=ad2 (ad2 (ml2 R.1 R.1) (ml2 R.1 R.1)) (ml2 R.1 R.1))∧¬ad2 R.2 R.2=ze2:=by
  cases d<;>simp[CST]at h
  ·exact ⟨h.1.2,h.2⟩
  ·exact ⟨h.1.1.1.2,h.1.1.2⟩
 have hs:E2w.Sl R R s:=⟨by
  show ml2 s (E2w.sub R.1 R.1)=E2w.sub R.2 R.2
  rw[E2w.sub_self,E2w.sub_self];exact R2.mul_zero s,dbl.1⟩
 have ho: ¬E2w.opp R R:=fun k=>dbl.2 k.2
 have hT:E2w.on (E2w.th R R s):=E2w.th_on hR hs
 have eA:E2w.ad (some R) (some R)=some (E2w.th R R s):=E2w.ad_sl hR hR ho hs
 have eL:LG (some R) (some R) q=LN R s q:=GS hR hR ho hs q
 cases d with
 |false=>
  refine ⟨?_,hT⟩
  show (K12.mul (K12.mul f f) (LG (some R) (some R) q),E2w.ad (some R) (some R))=_
  rw[eL,eA];rfl
 |true=>
  have ad:(ml2 t (E2w.sub (E2w.th R R s).1 Q.1)=E2w.sub (E2w.th R R s).2 Q.2)∧¬E2w.sub (E2w.th R R s).1 Q.1=ze2:=by
   simp[CST]at h
   exact ⟨h.1.2,h.2⟩
  have h3:(CST q Q (true,s,t) (c,f,R)).2.2=E2w.th (E2w.th R R s) Q t:=rfl
  have h4:(CST q Q (true,s,t) (c,f,R)).2.1=K12.mul (K12.mul (K12.mul f f) (LN R s q)) (LN (E2w.th R R s) t q):=rfl
  generalize E2w.th R R s=T at*
  have ho2: ¬E2w.opp T Q:=fun k=>ad.2 (by rw[k.1];exact E2w.sub_self _)
  obtain ⟨s',hs'⟩:=E2w.sl_is hT hQ ho2
  have e0:ml2 (E2w.sub t s') (E2w.sub T.1 Q.1)=ze2:=by
   have k1:ml2 t (E2w.sub T.1 Q.1)=ml2 s' (E2w.sub T.1 Q.1):=ad.1.trans hs'.1.symm
   have k2:ml2 (E2w.sub t s') (E2w.sub T.1 Q.1)=E2w.sub (ml2 t (E2w.sub T.1 Q.1)) (ml2 s' (E2w.sub T.1 Q.1)):=zx R2 [t,s',E2w.sub T.1 Q.1] 0x546378 0x45683578
   rw[k2,k1];exact E2w.sub_self _
  have et:t=s':=E2w.sub0 ((E2w.fd.two e0).resolve_right ad.2)
  subst et
  refine ⟨?_,by rw[h3];exact E2w.th_on hQ hs'⟩
  show (K12.mul (K12.mul (K12.mul f f) (LG (some R) (some R) q)) (LG (E2w.ad (some R) (some R)) (some Q) q),E2w.ad (E2w.ad (some R) (some R)) (some Q))=_
  rw[eL,eA,GS hT hQ ho2 hs',E2w.ad_sl hT hQ ho2 hs',h3,h4]
theorem KH{q:Zp×Zp}{Q:W2×W2}(hQ:E2w.on Q): ∀(l:List (Bool×W2×W2)) (c:Bool) (f:W12) (R:W2×W2),E2w.on R→(CRN q Q l (c,f,R)).1=true→(MLW q (some Q) (l.map (·.1)) (f,some R)).1=(CRN q Q l (c,f,R)).2.1
 |[],_,_,_,_,_=>rfl
 |e::r,c,f,R,hR,h=>by
  obtain ⟨k,hk⟩:=Si hQ e c f R hR (Dh r _ h)
  show (MLW q (some Q) (r.map (·.1)) (MSW q (some Q) e.1 (f,some R))).1=(CRN q Q r (CST q Q e (c,f,R))).2.1
  rw[k]
  exact KH hQ r _ _ _ hk h
def L63:List Bool:=SLP.map (·.1)
theorem uV:bU L63 1=UG:=by decide+kernel
theorem CJ:MLv L63 (some G1p) (some G2p)=AH:=by
 rw[TP L63 G1p (Q:=some G2p) qB]
 exact (KH qB SLP true K12.one G2p qB yv.1).trans yv.2
/-! ### The power -/
def PB(x:W12):List Bool→W12→W12
 |[],a=>a
 |true::r,a=>PB x r (K12.mul (K12.mul a a) x)
 |false::r,a=>PB x r (K12.mul a a)
theorem D7(x:W12): ∀(l:List Bool) (n:Nat),PB x l (K12.pw x n)=K12.pw x (bU l n)
 |[],_=>rfl
 |true::r,n=>by
  rw[PB,K12.bt_y x (m:=2*n+1) rfl];exact D7 x r _
 |false::r,n=>by
  rw[PB,K12.bt_n x (m:=2*n) rfl];exact D7 x r _
def tB(x:W12):W12:=ca (PB x L63 x)
theorem We:tnd UG=tB:=funext fun x=>by
 have h:=D7 x L63 1
 rw[uV,K12.pw_one]at h
 rw[tnd,tB,h]
def GL2:W2:=(-(zp CNn),zp CNn)
def FRL(x:W12):W12:=((ml2 (cj2 x.1.1) (pw2 GL2 0),ml2 (cj2 x.1.2.1) (pw2 GL2 2),ml2 (cj2 x.1.2.2) (pw2 GL2 4)),(ml2 (cj2 x.2.1) (pw2 GL2 1),ml2 (cj2 x.2.2.1) (pw2 GL2 3),ml2 (cj2 x.2.2.2) (pw2 GL2 5)))
theorem Qc:bP=FRL:=funext fun x=>by
 unfold bP FRL
 rw[wm];rfl
def FB(t fr:W12→W12)(x g:W12):W12:=
 let y:=(fun z=>K12.mul (fr (fr z)) z) (K12.mul (ca x) g)
 let a:=(fun z=>K12.mul (t z) (ca z)) ((fun z=>K12.mul (t z) (ca z)) y)
 let b:=(fun z=>K12.mul (t z) (fr z)) a
 K12.mul (K12.mul (K12.mul ((fun z=>K12.mul (K12.mul (t (t z)) (fr (fr z))) (ca z)) b) y) y) y
theorem UL(x:W12):tz UG x=FB (tnd UG) bP x (iC x):=rfl
def Qx:W12:=(((zp 0xce727e858bbb9928346f5f63078338c7240c3c0f51d0d8fc9a8f3b8a5fed6405148c0b3b78ba0a9bc9a422e4c4bb728,zp 0x14ce6b96183974c58f58cd74bd7c3b080f0d4de47339d2418829ee96bbbfee14c081679e859a685d4f16c798234f6b2f),(zp 0x2451f6353159b095014fbfd0e128e40540103d69fdc7e3e95283fcebb2d1d938c54d6edccbffc7e52ee9c3e18b1e220,zp 0xa246ca94d81b403c032955435a445a2c05098cd3889dcb11fe7e1797ee812367a710b5f31205b84f828730ca165f490),(zp 0x26f25bfba3b1e45506f413dd9cd9a24e462e0f20df53918999da0b3fa0721e965c265cb64107666f43035a69cd7facf,zp 0x15b7f16e466d2aa21a692e40767e3253951e28ed56b53ad4c4d8fa768411025c5d9d5d8ea3e72bf26704d14dbb508efc)),((zp 0x3266b63a5f104086324367e0d66992cb27853afa44126409a7bd2d906bc8be1e454716eeb0857866883225b50d0ce9b,zp 0x163715665461fe08dc8a265b4dd5dfed3eb47f2e76ce6eace292457ed334257792d8d9466ca14e77473ada42bd9f38b0),(zp 0x13af347b51c3b839e912192461f574243bddb4f2eaeb526ce8147722964ad520e2e8a22bd8f375fa3b9fc473cf207a44,zp 0x37009aa7a6ad750b9dad9423274f8d9725ae96f136a10316b6026ac37ecc0afd2eb082edae871555f4875ed92364c15),(zp 0xd278227e1eb20596407fd509534c958a725b6fa487995cdb6ab119621ba8cd9572b86ce8dedf41fd03a897624967acc,zp 0x193b4f09ebca8d5ba691493455ac94c9de769317c75af61e46fec0ec4159b1d0666cd93f079f9b6838eacbf8e3fcb7c3)))
theorem TS:K12.mul AH Qx=K12.one:=by decide+kernel
theorem V9:AH≠K12.zero:=by decide+kernel
theorem M_iv:iC AH=Qx:=K12.inv_one (mE V9) TS
theorem R0:FB tB FRL AH Qx≠K12.one:=by decide+kernel
theorem MZ:FN FE (MLv L63 (some G1p) (some G2p))≠K12.one:=by
 rw[CJ,FN,←CF,UL,We,Qc,M_iv]
 exact R0
end
section
theorem nG(x:W12): ∀n,ca (K12.pw x n)=K12.pw (ca x) n
 |0=>gP
 |n+1=>by rw[Rg.pw,iW,nG x n];rfl
def PR(l:List Bool)(e:Nat)(P:Pt Zp)(Q:Pt W2):W12:=FN e (ca (MLv l P Q))
theorem lQ(l:List Bool)(e:Nat)(P:Pt Zp)(Q:Pt W2):PR l e P Q=ca (FN e (MLv l P Q)):=(nG _ e).symm
section
variable {e:Nat} {l:List Bool}
theorem SO(h6:e % (PP^6-1)=0)(hr:e*ORD % (PP^12-1)=0)(he:e-1+1=e)(hl:bU l 1=UG){P:Pt Zp}(hP:E1.onP P){Q:Pt W2}(hQ:E2w.onP Q)(hq:E2w.times Q ORD=none)(k:Nat):PR l e (E1.times P k) Q=K12.pw (PR l e P Q) k:=by
 rw[lQ,lQ,LI h6 hr he hl hP hQ ((ye hQ).2 hq),nG]
theorem Wr(h6:e % (PP^6-1)=0)(hr:e*ORD % (PP^12-1)=0)(he:e-1+1=e)(hl:bU l 1=UG){P:Pt Zp}(hP:E1.onP P){Q:Pt W2}(hQ:E2w.onP Q)(hq:E2w.times Q ORD=none)(k:Nat):PR l e P (E2w.times Q k)=K12.pw (PR l e P Q) k:=by
 rw[lQ,lQ,LC h6 hr he hl hP hQ ((ye hQ).2 hq),nG]
theorem PR_1(h6:e % (PP^6-1)=0)(hr:e*ORD % (PP^12-1)=0)(he:e-1+1=e)(hl:bU l 1=UG){P P':Pt Zp}(hP:E1.onP P)(hP':E1.onP P'){Q:Pt W2}(hQ:E2w.onP Q)(hq:E2w.times Q ORD=none):K12.mul (PR l e P Q) (PR l e P' Q)=PR l e (E1.ad P P') Q:=by
 rw[lQ,lQ,lQ,←iW,SW h6 hr he hl hP hP' hQ ((ye hQ).2 hq)]
theorem Tk(Q:Pt W2):PR l e none Q=K12.one:=by rw[PR,B1,gP];exact ll
end
/-! ### The generators' -/
def EG:W12:=PR L63 FE (some G1p) (some G2p)
theorem Vr:EG≠K12.one:=fun h=>MZ (by
 have k:=congrArg ca h
 rw[EG,lQ,n4,gP]at k
 exact k)
theorem S9:K12.pw EG ORD=K12.one:=by
 rw[EG,lQ,←nG,Pb JY (by rw[CJ];exact V9),gP]
theorem Cq(n:Nat):K12.pw EG (n % ORD)=K12.pw EG n:=by
 have h:K12.pw EG n=K12.pw EG (ORD*(n / ORD)+n % ORD):=congrArg (K12.pw EG) (Nat.div_add_mod n ORD).symm
 rw[h,K12.pw_add,K12.pw_mul,S9,K12.one_pw,K12.one_mul]
theorem BS(n:Nat):K12.pw EG n=K12.one↔n % ORD=0:=by
 constructor
 ·intro h
  by_cases k:n % ORD=0
  ·exact k
  ·obtain ⟨m,hm⟩:=qh m5 (Nat.pos_of_ne_zero k) (Nat.mod_lt n (Nat.lt_trans Nat.zero_lt_one m5.1))
   refine absurd ?_ Vr
   have e1:K12.pw EG ((n % ORD)*m)=K12.one:=by rw[K12.pw_mul,Cq,h,K12.one_pw]
   rw[←Cq,hm,K12.pw_one]at e1
   exact e1
 ·exact fun h=>sW S9 h
theorem sF(k m:Nat):PR L63 FE (E1.times (some G1p) k) (E2w.times (some G2p) m)=K12.pw EG (k*m):=by
 have on2:E2w.onP (E2w.times (some G2p) m):=E2w.times_on i8 m
 rw[SO Hh JY xh uV gj on2 (E2w.times_ord i8 iZ m) k,Wr Hh JY xh uV gj i8 iZ m,←K12.pw_mul,Nat.mul_comm]
 rfl
end
section
section
variable {α:Type} (C:Ec α)
def Ec.t3(x:α):α:=C.R.add (C.R.add (C.R.mul x x) (C.R.mul x x)) (C.R.mul x x)
def Ec.wdL(J:α×α×α):α×α×α:=(C.sub (C.R.mul (C.t3 J.1) J.1) (C.R.mul (C.R.add J.2.1 J.2.1) J.2.1),C.R.mul (C.t3 J.1) (C.R.mul J.2.2 J.2.2),C.R.mul (C.R.mul J.2.2 (C.R.add J.2.1 J.2.1)) (C.R.mul J.2.2 J.2.2))
def Ec.wdJ(J:α×α×α):α×α×α:=
 let u:=C.t3 J.1
 let d:=C.R.mul (C.R.add J.2.1 J.2.1) J.2.1
 let h:=C.R.add d d
 let b:=C.R.mul h J.1
 let X:=C.sub (C.sub (C.R.mul u u) b) b
 (X,C.sub (C.R.mul u (C.sub b X)) (C.R.mul h d),C.R.mul J.2.2 (C.R.add J.2.1 J.2.1))
def Ec.wjU(J:α×α×α)(q:α×α):α:=C.sub (C.R.mul (C.R.mul q.2 (C.R.mul J.2.2 J.2.2)) J.2.2) J.2.1
def Ec.wjA(J:α×α×α)(q:α×α):α:=C.sub (C.R.mul q.1 (C.R.mul J.2.2 J.2.2)) J.1
def Ec.wjL(J:α×α×α)(q:α×α):α×α×α:=(C.sub (C.R.mul (C.wjU J q) q.1) (C.R.mul (C.R.mul J.2.2 (C.wjA J q)) q.2),C.wjU J q,C.R.mul J.2.2 (C.wjA J q))
def Ec.wjJ(J:α×α×α)(q:α×α):α×α×α:=
 let u:=C.wjU J q
 let a:=C.wjA J q
 let s:=C.R.mul a a
 let t:=C.R.mul s a
 let b:=C.R.mul s J.1
 let X:=C.sub (C.sub (C.sub (C.R.mul u u) t) b) b
 (X,C.sub (C.R.mul u (C.sub b X)) (C.R.mul t J.2.1),C.R.mul J.2.2 a)
theorem Ec.wdJ_dbA(J:α×α×α):C.wdJ J=C.dbA J:=C.dbl_ext (C.t3 J.1)
 (zx C.R [J.1,J.2.1,J.2.2] 0x5454777547776 0x554774776)
 (zx C.R [J.1,J.2.1,J.2.2] 0x54547775477754777 0x5554774774777)
 rfl
theorem Ec.wjJ_adG(J:α×α×α)(q:α×α):C.adG J (q.1,q.2,C.R.one)=C.wjJ J q:=by
 unfold Ec.adG
 simp only[C.R.mul_one]
 rfl
theorem Ec.wdL_ln{a:α×α}{J:α×α×α}(h:C.jr J (some a)){s:α}(hs:C.R.mul s (C.R.add a.2 a.2)=C.t3 a.1):(C.wdL J).1=C.R.mul (C.wdL J).2.2 (C.sub (C.R.mul s a.1) a.2)∧(C.wdL J).2.1=C.R.mul (C.wdL J).2.2 s:=by
 have hx:J.1=C.R.mul a.1 (C.R.mul J.2.2 J.2.2):=h.2.1
 have hy:J.2.1=C.R.mul a.2 (C.R.mul (C.R.mul J.2.2 J.2.2) J.2.2):=h.2.2
 have hs:C.R.mul s (C.R.add a.2 a.2)=C.R.add (C.R.add (C.R.mul a.1 a.1) (C.R.mul a.1 a.1)) (C.R.mul a.1 a.1):=hs
 unfold Ec.wdL
 rw[hx,hy]
 exact ⟨zl C.R [a.1,a.2,J.2.2,s] 0x454455658856588556588565885565885658856588354575588857558885755888 0x53555885588588644566566566 0x5558457558885755888588459637 0x53555885588588659477 (lcm hs),zl C.R [a.1,a.2,J.2.2,s] 0x544556588565885565885658855658856588588 0x535588558858844566566566 0x55584575588857558885889 0x535588558858859477 (lcm hs)⟩
theorem Ec.wjL_ln{a q:α×α}{J:α×α×α}(h:C.jr J (some a)){s:α}(hs:C.R.mul s (C.sub a.1 q.1)=C.sub a.2 q.2):(C.wjL J q).1=C.R.mul (C.wjL J q).2.2 (C.sub (C.R.mul s a.1) a.2)∧(C.wjL J q).2.1=C.R.mul (C.wjL J q).2.2 s:=by
 have hx:J.1=C.R.mul a.1 (C.R.mul J.2.2 J.2.2):=h.2.1
 have hy:J.2.1=C.R.mul a.2 (C.R.mul (C.R.mul J.2.2 J.2.2) J.2.2):=h.2.2
 unfold Ec.wjL Ec.wjU Ec.wjA
 rw[hx,hy]
 exact ⟨zl C.R [a.1,a.2,J.2.2,s,q.1,q.2] 0x45455b588835755888a355845a588356588b 0x55558886473b 0x55845a588356588459637 0x5555888659463a (lcm hs),zl C.R [a.1,a.2,J.2.2,s,q.1,q.2] 0x455b588835755888 0x555888473b 0x55845a5883565889 0x55588859463a (lcm hs)⟩
theorem Ec.wdL_ne{a:α×α}{J:α×α×α}(h:C.jr J (some a))(ha:a.2≠C.R.zero):(C.wdL J).2.2≠C.R.zero:=by
 have hy:J.2.1≠C.R.zero:=by rw[h.2.2];exact C.mul_ne ha (C.z3_ne h.1)
 exact C.mul_ne (C.mul_ne h.1 fun e=>hy (C.dbl0 e)) (C.z2_ne h.1)
theorem Ec.wjA_ne{a q:α×α}{J:α×α×α}(h:C.jr J (some a))(ha:a.1≠q.1):C.wjA J q≠C.R.zero:=fun e=>ha (by
 have hx:J.1=C.R.mul a.1 (C.R.mul J.2.2 J.2.2):=h.2.1
 have k:=C.sub0 e
 rw[hx]at k
 exact (C.mul_can (C.z2_ne h.1) k).symm)
theorem Ec.wjL_ne{a q:α×α}{J:α×α×α}(h:C.jr J (some a))(ha:a.1≠q.1):(C.wjL J q).2.2≠C.R.zero:=C.mul_ne h.1 (C.wjA_ne h ha)
end
section
variable {α:Type} [DecidableEq α] (C:Ec α)
theorem Ec.wdJ_jr{J:α×α×α}{P:Pt α}(hP:C.onP P)(h:C.jr J P):C.jr (C.wdJ J) (C.ad P P):=by rw[C.wdJ_dbA];exact C.dbA_jr hP h
theorem Ec.wjJ_jr{J:α×α×α}{a q:α×α}(h1:C.R.one≠C.R.zero)(ha:C.on a)(hq:C.on q)(h:C.jr J (some a))(hn:a.1≠q.1):C.jr (C.wjJ J q) (C.ad (some a) (some q)):=by
 have k:=C.adA_jr (P:=some a) (Q:=some q) ha hq h (C.jr_at q h1)
 have e:C.jh J.1 J.2.2 q.1 C.R.one≠C.R.zero:=fun e=>C.wjA_ne h hn (by
  show C.sub (C.R.mul q.1 (C.R.mul J.2.2 J.2.2)) J.1=C.R.zero
  have e:C.sub (C.R.mul q.1 (C.R.mul J.2.2 J.2.2)) (C.R.mul J.1 (C.R.mul C.R.one C.R.one))=C.R.zero:=e
  rw[C.R.mul_one,C.R.mul_one]at e
  exact e)
 rw[show C.adA J (q.1,q.2,C.R.one)=C.adG J (q.1,q.2,C.R.one)from (if_neg h.1).trans ((if_neg h1).trans (if_neg e)),C.wjJ_adG]at k
 exact k
end
theorem SE(c:W2)(y:W12):K12.mul (em c) y=((ml2 c y.1.1,ml2 c y.1.2.1,ml2 c y.1.2.2),(ml2 c y.2.1,ml2 c y.2.2.1,ml2 c y.2.2.2)):=
 Prod.ext (Prod.ext (zx R2 [c,y.1.1,y.1.2.1,y.1.2.2,y.2.1,y.2.2.1,y.2.2.2,XI] 0x445675d4519518451451a5d451c51b5d4524451c51b51a514451b51a5d51c 0x567) (Prod.ext (zx R2 [c,y.1.1,y.1.2.1,y.1.2.2,y.2.1,y.2.2.1,y.2.2.2,XI] 0x4445685175d51944514451b51a5d51c52451a5d451c51b5d514451c51b51a 0x568) (zx R2 [c,y.1.1,y.1.2.1,y.1.2.2,y.2.1,y.2.2.1,y.2.2.2,XI] 0x44456951851744514451c51b51a524451b51a5d51c51451a5d451c51b 0x569))) (Prod.ext (zx R2 [c,y.1.1,y.1.2.1,y.1.2.2,y.2.1,y.2.2.1,y.2.2.2,XI] 0x4456a5d451c51b45175d4519518 0x56a) (Prod.ext (zx R2 [c,y.1.1,y.1.2.1,y.1.2.2,y.2.1,y.2.2.1,y.2.2.2,XI] 0x44456b51a5d51c445185175d519 0x56b) (zx R2 [c,y.1.1,y.1.2.1,y.1.2.2,y.2.1,y.2.2.1,y.2.2.2,XI] 0x44456c51b51a44519518517 0x56c)))
theorem Kz(x:W2)(c:Zp):sc2 x c=ml2 x (re2 c):=bx (by show x.1*c=x.1*c-x.2*0;rw[ib,KM]) (by show x.2*c=x.1*0+x.2*c;rw[ib,OW])
def LNE(L:W2×W2×W2)(p:Zp×Zp):W12:=((L.1,ng2 (sc2 L.2.1 p.1),ze2),(ze2,sc2 L.2.2 p.2,ze2))
theorem F7{L:W2×W2×W2}{a:W2×W2}{s:W2}(h:L.1=ml2 L.2.2 (E2w.sub (ml2 s a.1) a.2)∧L.2.1=ml2 L.2.2 s)(p:Zp×Zp):LNE L p=K12.mul (em L.2.2) (LN a s p):=by
 rw[SE,LNE,LN]
 refine Prod.ext (Prod.ext ?_ (Prod.ext ?_ ?_)) (Prod.ext ?_ (Prod.ext ?_ ?_))
 ·show L.1=ml2 L.2.2 (sb2 (ml2 s a.1) a.2)
  rw[ly];exact h.1
 ·show ng2 (sc2 L.2.1 p.1)=ml2 L.2.2 (ng2 (ml2 s (re2 p.1)))
  rw[Kz,h.2]
  exact zx R2 [L.2.2,s,re2 p.1] 0x355678 0x563578
 ·exact (R2.mul_zero _).symm
 ·exact (R2.mul_zero _).symm
 ·show sc2 L.2.2 p.2=ml2 L.2.2 (re2 p.2)
  exact Kz _ _
 ·exact (R2.mul_zero _).symm
end
section
abbrev WK:=(Zp×Zp)×(W2×W2)×W6
def LNR(L:W2×W2×W2)(p:Zp×Zp):W6:=(L.1,ng2 (sc2 L.2.1 p.1),sc2 L.2.2 p.2)
def lel(t:W6):W12:=((t.1,t.2.1,ze2),(ze2,t.2.2,ze2))
def wDb(w:WK):WK:=(w.1,w.2.1,E2w.wdJ w.2.2)
def rDb(w:WK):W6:=LNR (E2w.wdL w.2.2) w.1
def wJn(w:WK):WK:=if w.2.2.2.2=ze2 then (w.1,w.2.1,(w.2.1.1,w.2.1.2,on2))else (w.1,w.2.1,E2w.wjJ w.2.2 w.2.1)
def rJn(w:WK):W6:=if w.2.2.2.2=ze2 then (on2,ze2,ze2)else LNR (E2w.wjL w.2.2 w.2.1) w.1
def e9(g:WK→W6):List WK→W12→W12
 |[],f=>f
 |w::l,f=>e9 g l (K12.mul (lel (g w)) f)
def rdF(d:Bool)(S:List WK×W12):List WK×W12:=
 bif d then ((S.1.map wDb).map wJn,e9 rJn (S.1.map wDb) (e9 rDb S.1 (K12.mul S.2 S.2)))else (S.1.map wDb,e9 rDb S.1 (K12.mul S.2 S.2))
def rdK(l:List Bool)(S:List WK×W12):List WK×W12:=l.foldl (fun S d=>rdF d S) S
theorem zv(l:List Bool)(d:Bool)(S:List WK×W12):rdK (l++[d]) S=rdF d (rdK l S):=by rw[rdK,List.foldl_append];rfl
/-! ### Products -/
def gA:List W12→W12
 |[]=>K12.one
 |x::l=>K12.mul x (gA l)
theorem tr(g:WK→W6): ∀(l:List WK) (f:W12),e9 g l f=K12.mul (gA (l.map fun w=>lel (g w))) f
 |[],f=>(K12.one_mul f).symm
 |w::l,f=>by
  rw[e9,tr g l,List.map_cons,gA,K12.mul_comm (lel (g w)),←K12.mul_assoc,K12.mul_comm (K12.mul _ f),←K12.mul_assoc]
theorem mH(g h:WK→W12): ∀l:List WK,gA (l.map fun w=>K12.mul (g w) (h w))=K12.mul (gA (l.map g)) (gA (l.map h))
 |[]=>(K12.one_mul _).symm
 |w::l=>by rw[List.map_cons,gA,mH g h l,K12.mul_four];rfl
def Up6(a b:W12):Prop:= ∃c:W6,c≠K6.zero∧a=K12.mul (r6 c) b
theorem Up6.refl(a:W12):Up6 a a:=⟨K6.one,by decide+kernel,by rw[Cx,K12.one_mul]⟩
theorem ne6{a b:W6}(ha:a≠K6.zero)(hb:b≠K6.zero):K6.mul a b≠K6.zero:=fun e=>(fd6.two e).elim ha hb
theorem Up6.mul{a b c d:W12}(h:Up6 a b)(k:Up6 c d):Up6 (K12.mul a c) (K12.mul b d):=by
 obtain ⟨x,hx,rfl⟩:=h
 obtain ⟨y,hy,rfl⟩:=k
 exact ⟨K6.mul x y,ne6 hx hy,by rw[K12.mul_four,CG]⟩
theorem Up6.cj{a b:W12}(h:Up6 a b):Up6 (ca a) (ca b):=by
 obtain ⟨x,hx,rfl⟩:=h
 exact ⟨x,hx,by rw[iW];exact congrArg (fun y=>K12.mul y _) (Prod.ext rfl K6.neg_zero)⟩
theorem Up6.pr{g h:WK→W12}: ∀{l:List WK},(∀w∈l,Up6 (g w) (h w))→Up6 (gA (l.map g)) (gA (l.map h))
 |[],_=>Up6.refl _
 |w::_,k=>(k w List.mem_cons_self).mul (Up6.pr fun v hv=>k v (List.mem_cons_of_mem _ hv))
theorem Up6.fn{e:Nat}(h6:e % (PP^6-1)=0){a b:W12}(h:Up6 a b):FN e a=FN e b:=by
 obtain ⟨x,hx,rfl⟩:=h
 rw[pG,yX h6 hx,K12.one_mul]
theorem Up6.ne{a b:W12}(h:Up6 a b)(hb:b≠K12.zero):a≠K12.zero:=by
 obtain ⟨x,hx,rfl⟩:=h
 exact fun e=>(fd12.two e).elim (fun e=>hx (E4 e)) hb
/-! ### One round -/
theorem hrO{d:Nat}(h0:0<d)(h1:d<ORD): ∃e,(d*e) % ORD=1:=qh m5 h0 h1
theorem uD{q:W2×W2}(hq:E2w.on q)(qr:E2w.times (some q) ORD=none){m:Nat}(h0:0<m)(h1:m<ORD):E2w.times (some q) m≠none:=fun e=>by
 have k:=E2w.times_inj (Q:=some q) hq (fun d=>hrO) qr (fun e=>by cases e) (m:=m) (n:=0) h1 om e
 omega
structure WOk(w:WK)(m:Nat):Prop where
 on:E2w.on w.2.1
 qr:E2w.times (some w.2.1) ORD=none
 jr:E2w.jr w.2.2 (E2w.times (some w.2.1) m)
theorem mi{α:Type}{P:Option α}(h:P≠none): ∃a,P=some a:=by
 cases P with
 |none=>exact absurd rfl h
 |some a=>exact ⟨a,rfl⟩
theorem TA{a:W2×W2}{s:W2}(h:E2w.Sl a a s):E2w.R.mul s (E2w.R.add a.2 a.2)=E2w.t3 a.1:=h.2
theorem yY(L:W2×W2×W2)(p:Zp×Zp):lel (LNR L p)=LNE L p:=rfl
theorem WOk.dbl{w:WK}{m:Nat}(h:WOk w m)(h0:0<m)(h1:2*m<ORD):WOk (wDb w) (2*m)∧Up6 (lel (rDb w)) (LG (E2w.times (some w.2.1) m) (E2w.times (some w.2.1) m) w.1):=by
 have hon:E2w.onP (E2w.times (some w.2.1) m):=E2w.times_on (P:=some w.2.1) h.on m
 refine ⟨⟨h.on,h.qr, ?_⟩, ?_⟩
 ·show E2w.jr (E2w.wdJ w.2.2) (E2w.times (some w.2.1) (2*m))
  rw[←E2w.dbl_times (P:=some w.2.1) h.on]
  exact E2w.wdJ_jr hon h.jr
 ·obtain ⟨a,ha⟩:=mi (uD h.on h.qr h0 om)
  have hj:=h.jr
  rw[ha]at hj hon⊢
  have ho: ¬E2w.opp a a:=fun o=>uD h.on h.qr (m:=2*m) om h1 (by rw[←E2w.dbl_times (P:=some w.2.1) h.on,ha];exact E2w.ad_opp o)
  have hy:a.2≠ze2:=fun e=>ho ⟨rfl,by rw[e];exact R2.add_zero _⟩
  have hs:=E2w.sl_slope hon hon ho
  rw[rDb,yY,F7 (E2w.wdL_ln hj (TA hs)),GS hon hon ho hs]
  exact ⟨_,fun e=>E2w.wdL_ne hj hy (congrArg Prod.fst e),rfl⟩
theorem WOk.jn{w:WK}{m:Nat}(h:WOk w m)(h0:1<m)(h1:m+1<ORD):WOk (wJn w) (m+1)∧Up6 (lel (rJn w)) (LG (E2w.times (some w.2.1) m) (some w.2.1) w.1):=by
 have hon:E2w.onP (E2w.times (some w.2.1) m):=E2w.times_on (P:=some w.2.1) h.on m
 obtain ⟨a,ha⟩:=mi (uD h.on h.qr (m:=m) om om)
 have hj:=h.jr
 rw[ha]at hj hon
 have hz: ¬w.2.2.2.2=ze2:=hj.1
 have ho: ¬E2w.opp a w.2.1:=fun o=>uD h.on h.qr (m:=m+1) om h1 (by
  show E2w.ad (E2w.times (some w.2.1) m) (some w.2.1)=none
  rw[ha];exact E2w.ad_opp o)
 have hx:a.1≠w.2.1.1:=fun hx=>by
  by_cases hy:a.2=w.2.1.2
  ·have e:E2w.times (some w.2.1) m=E2w.times (some w.2.1) 1:=by rw[ha,tm1];exact congrArg some (Prod.ext hx hy)
   have:=E2w.times_inj (Q:=some w.2.1) h.on (fun d=>hrO) h.qr (fun e=>by cases e) (m:=m) (n:=1) om om e
   omega
  ·obtain ⟨s,hs⟩:=E2w.sl_is hon h.on ho
   have e:=hs.1
   rw[hx,E2w.sub_self]at e
   exact hy (E2w.sub0 (e.symm.trans (show E2w.R.mul s E2w.R.zero=E2w.R.zero from E2w.R.mul_zero s)))
 have hs:=E2w.sl_slope hon h.on ho
 refine ⟨?_, ?_⟩
 ·rw[show wJn w=(w.1,w.2.1,E2w.wjJ w.2.2 w.2.1)from if_neg hz]
  refine ⟨h.on,h.qr, ?_⟩
  show E2w.jr (E2w.wjJ w.2.2 w.2.1) (E2w.ad (E2w.times (some w.2.1) m) (some w.2.1))
  rw[ha]
  exact E2w.wjJ_jr D0 hon h.on hj hx
 ·rw[show rJn w=LNR (E2w.wjL w.2.2 w.2.1) w.1 from if_neg hz,yY,F7 (E2w.wjL_ln hj hs.1),ha,GS hon h.on ho hs]
  exact ⟨_,fun e=>E2w.wjL_ne hj hx (congrArg Prod.fst e),rfl⟩
/-! ### All rounds -/
def MV(l:List Bool)(w:WK):W12×Pt W2:=MLW w.1 (some w.2.1) l (K12.one,some w.2.1)
theorem sH(q:Zp×Zp)(Q:Pt W2)(d:Bool): ∀(l:List Bool) (st:W12×Pt W2),MLW q Q (l++[d]) st=MSW q Q d (MLW q Q l st)
 |[],_=>rfl
 |e::l,st=>sH q Q d l (MSW q Q e st)
theorem iK(d:Bool): ∀(l:List Bool) (n:Nat),bU (l++[d]) n=2*bU l n+d.toNat
 |[],n=>by cases d<;>rfl
 |e::l,n=>by rw[List.cons_append,kw,kw];exact iK d l _
theorem kJ{w v:WK}(h1:v.1=w.1)(h2:v.2.1=w.2.1)(l:List Bool):MV l v=MV l w:=by rw[MV,MV,h1,h2]
theorem Fp(w:WK):(wJn w).1=w.1:=by unfold wJn;split<;>rfl
theorem yw(w:WK):(wJn w).2.1=w.2.1:=by unfold wJn;split<;>rfl
structure RdOk(l:List Bool)(S:List WK×W12):Prop where
 w: ∀w∈S.1,WOk w (bU l 1)∧(MV l w).2=E2w.times (some w.2.1) (bU l 1)
 f:Up6 S.2 (gA (S.1.map fun w=>(MV l w).1))
theorem RdOk.step{l:List Bool}{S:List WK×W12}(h:RdOk l S)(d:Bool)(h0:0<bU l 1)(h1:2*bU l 1+1<ORD):RdOk (l++[d]) (rdF d S):=by
 have k1: ∀w∈S.1,WOk (wDb w) (2*bU l 1)∧Up6 (lel (rDb w)) (LG (MV l w).2 (MV l w).2 w.1):=fun w hw=>by
  have e:=(h.w w hw).1.dbl h0 om
  rw[(h.w w hw).2];exact e
 have m1: ∀w∈S.1,(MV (l++[false]) w)=(K12.mul (K12.mul (MV l w).1 (MV l w).1) (LG (MV l w).2 (MV l w).2 w.1),E2w.ad (MV l w).2 (MV l w).2):=fun w _=>sH _ _ _ _ _
 have f1:Up6 (e9 rDb S.1 (K12.mul S.2 S.2)) (gA (S.1.map fun w=>K12.mul (K12.mul (MV l w).1 (MV l w).1) (LG (MV l w).2 (MV l w).2 w.1))):=by
  rw[tr,K12.mul_comm,mH (fun w=>K12.mul (MV l w).1 (MV l w).1),mH]
  exact (h.f.mul h.f).mul (Up6.pr fun w hw=>(k1 w hw).2)
 cases d with
 |false=>
  refine ⟨fun w hw=> ?_, ?_⟩
  ·obtain ⟨v,hv,rfl⟩:=List.mem_map.1 hw
   rw[iK]
   refine ⟨(k1 v hv).1, ?_⟩
   rw[kJ (v:=wDb v) (w:=v) rfl rfl,m1 v hv]
   show E2w.ad (MV l v).2 (MV l v).2=_
   rw[(h.w v hv).2]
   exact E2w.dbl_times (P:=some v.2.1) (h.w v hv).1.on _
  ·have e:(S.1.map wDb).map (fun w=>(MV (l++[false]) w).1)=S.1.map fun w=>K12.mul (K12.mul (MV l w).1 (MV l w).1) (LG (MV l w).2 (MV l w).2 w.1):=by
    rw[List.map_map]
    exact List.map_congr_left fun w hw=>show (MV (l++[false]) (wDb w)).1=_ from by rw[kJ (v:=wDb w) (w:=w) rfl rfl,m1 w hw]
   show Up6 (e9 rDb S.1 (K12.mul S.2 S.2)) (gA ((S.1.map wDb).map (fun w=>(MV (l++[false]) w).1)))
   rw[e];exact f1
 |true=>
  have ed: ∀w∈S.1,E2w.ad (MV l w).2 (MV l w).2=E2w.times (some w.2.1) (2*bU l 1):=fun w hw=>by
   rw[(h.w w hw).2]
   exact E2w.dbl_times (P:=some w.2.1) (h.w w hw).1.on _
  have m2: ∀w∈S.1,(MV (l++[true]) w)=(K12.mul (K12.mul (K12.mul (MV l w).1 (MV l w).1) (LG (MV l w).2 (MV l w).2 w.1)) (LG (E2w.times (some w.2.1) (2*bU l 1)) (some w.2.1) w.1),E2w.ad (E2w.times (some w.2.1) (2*bU l 1)) (some w.2.1)):=fun w hw=>by
   rw[←ed w hw];exact sH _ _ _ _ _
  have k2: ∀w∈S.1,WOk (wJn (wDb w)) (2*bU l 1+1)∧Up6 (lel (rJn (wDb w))) (LG (E2w.times (some w.2.1) (2*bU l 1)) (some w.2.1) w.1):=fun w hw=>(k1 w hw).1.jn om om
  refine ⟨fun w hw=> ?_, ?_⟩
  ·obtain ⟨u,hu,rfl⟩:=List.mem_map.1 (show w∈(S.1.map wDb).map wJn from hw)
   obtain ⟨v,hv,rfl⟩:=List.mem_map.1 hu
   rw[iK]
   refine ⟨(k2 v hv).1, ?_⟩
   rw[kJ (v:=wJn (wDb v)) (w:=v) (Fp _) (yw _),m2 v hv,show (wJn (wDb v)).2.1=v.2.1 from yw _]
   rfl
  ·have e:((S.1.map wDb).map wJn).map (fun w=>(MV (l++[true]) w).1)=S.1.map fun w=>K12.mul (K12.mul (K12.mul (MV l w).1 (MV l w).1) (LG (MV l w).2 (MV l w).2 w.1)) (LG (E2w.times (some w.2.1) (2*bU l 1)) (some w.2.1) w.1):=by
    rw[List.map_map,List.map_map]
    exact List.map_congr_left fun w hw=>show (MV (l++[true]) (wJn (wDb w))).1=_ from by rw[kJ (v:=wJn (wDb w)) (w:=w) (Fp _) (yw _),m2 w hw]
   show Up6 (e9 rJn (S.1.map wDb) (e9 rDb S.1 (K12.mul S.2 S.2))) (gA (((S.1.map wDb).map wJn).map (fun w=>(MV (l++[true]) w).1)))
   rw[e,tr,K12.mul_comm,mH (fun w=>K12.mul (K12.mul (MV l w).1 (MV l w).1) (LG (MV l w).2 (MV l w).2 w.1)),List.map_map]
   exact f1.mul (Up6.pr fun w hw=>(k2 w hw).2)
theorem pJ: ∀(l:List Bool) (n:Nat),bU l n<(n+1)*2^l.length
 |[],n=>by show n<(n+1)*1;omega
 |d::l,n=>by
  rw[kw,List.length_cons,Nat.pow_succ]
  refine Nat.lt_of_lt_of_le (pJ l _) ?_
  rw[Nat.mul_comm (2^l.length) 2,←Nat.mul_assoc]
  exact Nat.mul_le_mul_right _ (by cases d<;>simp[Bool.toNat]<;>omega)
theorem nb: ∀(l:List Bool) (n:Nat),0<n→0<bU l n
 |[],n,h=>h
 |d::l,n,h=>by rw[kw];exact nb l _ om
theorem RdOk.all{S:List WK×W12}(h:RdOk [] S): ∀(n:Nat) (l:List Bool),l.length=n→n≤63→RdOk l (rdK l S)
 |0,l,hl,_=>by obtain rfl:=List.length_eq_zero_iff.1 hl;exact h
 |n+1,l,hl,hn=>by
  obtain ⟨r,d,rfl⟩: ∃r d,l=r++[d]:=⟨l.dropLast,l.getLast (fun e=>by rw[e]at hl;cases hl),(List.dropLast_concat_getLast _).symm⟩
  have hr:r.length=n:=by rw[List.length_append]at hl;simpa using hl
  rw[zv]
  refine (RdOk.all h n r hr om).step d (nb r 1 Nat.one_pos) ?_
  have h1:=pJ r 1
  have h2:2^r.length≤2^62:=Nat.pow_le_pow_right om om
  have h3:4*2^62+1<ORD:=by decide+kernel
  omega
def wkB(p:Zp×Zp)(q:W2×W2):WK:=(p,q,(q.1,q.2,on2))
theorem oW: ∀l:List WK,gA (l.map fun _=>K12.one)=K12.one
 |[]=>rfl
 |_::l=>by rw[List.map_cons,gA,oW l,K12.one_mul]
theorem IS(W:List WK)(hW: ∀w∈W,w=wkB w.1 w.2.1∧E2w.on w.2.1∧E2w.times (some w.2.1) ORD=none):Up6 (ca (rdK L63 (W,K12.one)).2) (ca (gA (W.map fun w=>MLv L63 (some w.1) (some w.2.1)))):=by
 have h0:RdOk [] (W,K12.one):=⟨fun w hw=>by
  obtain ⟨e,h1,h2⟩:=hW w hw
  refine ⟨⟨h1,h2, ?_⟩,rfl⟩
  show E2w.jr w.2.2 (E2w.times (some w.2.1) 1)
  rw[tm1,e]
  exact mV w.2.1,by
  show Up6 K12.one (gA (W.map fun _=>K12.one))
  rw[oW];exact Up6.refl _⟩
 have h:=h0.all 63 L63 (by decide+kernel) (Nat.le_refl _)
 have e1: ∀(l:List Bool) (S:List WK×W12),(rdK l S).1.map (fun w=>(MV L63 w).1)=S.1.map (fun w=>(MV L63 w).1):=by
  intro l
  induction l with
  |nil=>intro S;rfl
  |cons d l ih=>
   intro S
   refine (ih (rdF d S)).trans ?_
   cases d with
   |false=>
    show (S.1.map wDb).map _=_
    rw[List.map_map]
    exact List.map_congr_left fun w _=>show (MV L63 (wDb w)).1=_ from by rw[kJ (v:=wDb w) (w:=w) rfl rfl]
   |true=>
    show ((S.1.map wDb).map wJn).map _=_
    rw[List.map_map,List.map_map]
    exact List.map_congr_left fun w _=>show (MV L63 (wJn (wDb w))).1=_ from by rw[kJ (v:=wJn (wDb w)) (w:=w) (Fp _) (yw _)]
 have hf:=h.f
 rw[e1]at hf
 refine Up6.cj ?_
 rw[show (W.map fun w=>MLv L63 (some w.1) (some w.2.1))=W.map (fun w=>(MV L63 w).1)from List.map_congr_left fun w hw=>TP L63 w.1 (Q:=some w.2.1) (hW w hw).2.1]
 exact hf
end
section
open Go.RowKit
attribute [local simp] aW bd aU aP aD bf aL aK aB PLl cm cq N1l cr cp cu a8 bg aQ a6 bc J1.bj J2.bj
theorem ent178:ai prog 178:=fun _ _=>kr
theorem ent246:ai prog 246:=fun _ _=>kr
theorem ent247:ai prog 247:=fun _ _=>kr
theorem ent213:ai prog 213:=fun _ _=>kr
theorem ent216:ai prog 216:=fun _ _=>kr
theorem ent217:ai prog 217:=fun _ _=>kr
theorem ent218:ai prog 218:=fun _ _=>kr
theorem ent248:ai prog 248:=fun _ _=>kr
theorem ent240:ai prog 240:=fun _ _=>kr
namespace Q6
def TO201:Tb prog Gt:=J2.TO68.add (ya (g:=K6.one) ent221 ME)
def TO202:Tb prog Gt:=TO201.add (qe (g:=fun x y=>decide (x=y)) ent220 n6)
def TO203:Tb prog Gt:=TO202.add (cB (g:=K6.add) ent243 nq)
def TO204:Tb prog Gt:=TO203.add (cB (g:=sb6) ent245 ql)
def TO205:Tb prog Gt:=TO204.add (cF (g:=K6.neg) ent250 Ea)
def TO206:Tb prog Gt:=TO205.add (cB (g:=K6.mul) ent242 mm)
def TO207:Tb prog Gt:=TO206.add (cF (g:=fun x=>K6.mul x x) ent276 mA)
theorem nT{f:Nat}{g:W6→W2→W6}(en:ai prog f)(h: ∀a b,PUR f [EV6 a,EV2 b] (EV6 (g a b))):Snd prog Gt f (c2 q6.ag q2.ag q6.rd g):=ge q6.ag q2.ag q6.rd en (fun a b=>bQ (l2 (V6 _).symm rfl) (V6 _).symm (h a b))
def TO208:Tb prog Gt:=TO207.add (nT (g:=sc6) ent249 zd)
def TO209:Tb prog Gt:=TO208.add (cF (g:=v6) ent244 k6v)
def TO210:Tb prog Gt:=TO209.add (cF (g:=oth) ent292 qc)
def TO211:Tb prog Gt:=TO210.add (cF (g:=iv6) ent277 Cd)
def TO212:Tb prog Gt:=TO211.add (Cj (g:=K12.one) ent180 pW)
def TO213:Tb prog Gt:=TO212.add (iN (g:=fun x y=>decide (x=y)) ent179 qp)
def TO215:Tb prog Gt:=TO213.add (cK (g:=ca) ent219 ol)
def TO216:Tb prog Gt:=TO215.add (gZ (g:=K12.mul) ent236 xg)
def TO217:Tb prog Gt:=TO216.add (cK (g:=fun x=>K12.mul x x) ent215 iO)
def TO218:Tb prog Gt:=TO217.add (cK (g:=iC) ent238 EK)
def XY3(x:W6):W2×W2×Bool:=if x.2.2=ze2 then (ze2,ze2,false)else (ml2 x.1 (ml2 (iv2 x.2.2) (iv2 x.2.2)),ml2 x.2.1 (ml2 (ml2 (iv2 x.2.2) (iv2 x.2.2)) (iv2 x.2.2)),true)
theorem xy3(x:W6):PUR 96 [EV6 x] (.tuple #[EV2 (XY3 x).1,EV2 (XY3 x).2.1,.bool (XY3 x).2.2]):=by
 by_cases h:x.2.2=ze2
 ·rw[show XY3 x=(ze2,ze2,false)from if_pos h];exact J2.yS x h
 ·rw[show XY3 x=_ from if_neg h];exact J2.zD x h
theorem sM{f:Nat}{g:W6→W2×W2×Bool}(en:ai prog f)(h: ∀a,PUR f [EV6 a] (.tuple #[EV2 (g a).1,EV2 (g a).2.1,.bool (g a).2.2])):Snd prog Gt f (c1 q6.ag q2.rdBB g):=f8 q6.ag q2.rdBB en (fun a=>bQ (l1 (V6 _).symm) rfl (h a))
def TO219:Tb prog Gt:=TO218.add (sM (g:=XY3) ent96 xy3)
def TG2(x y:W2):W2×W2:=(ad2 (ad2 (ml2 x x) (ml2 x x)) (ml2 x x),ad2 y y)
theorem mtan(x y:W2):PUR 246 [EV2 x,EV2 y] (.tuple #[EV2 (TG2 x y).1,EV2 (TG2 x y).2]):=pE TO219 func246 [.inl [x.1,x.2],.inl [y.1,y.2]] (.inr [.inl [((TG2 x y).1).1,((TG2 x y).1).2],.inl [((TG2 x y).2).1,((TG2 x y).2).2]]) (let t0:=ml2 x x;let t1:=ad2 (t0.1,t0.2) (t0.1,t0.2);let t2:=ad2 (t1.1,t1.2) (t0.1,t0.2);let t3:=ad2 y y;(.inr [.inl [t2.1,t2.2],.inl [t3.1,t3.2]],[])) [] kr aI rfl
theorem mQ{f:Nat}{g:W2→W2→W2×W2}(en:ai prog f)(h: ∀a b,PUR f [EV2 a,EV2 b] (.tuple #[EV2 (g a b).1,EV2 (g a b).2])):Snd prog Gt f (c2 q2.ag q2.ag q2.rd2 g):=ge q2.ag q2.ag q2.rd2 en h
def TO220:Tb prog Gt:=TO219.add (mQ (g:=TG2) ent246 mtan)
def LR5(p q:Zp)(a b c:W2):W6:=(a,ng2 (sc2 b p),sc2 c q)
theorem Kb(p q:Zp)(a b c:W2):PUR 247 [EV p,EV q,EV2 a,EV2 b,EV2 c] (EV6 (LR5 p q a b c)):=(bQ rfl (V6 _) (pE TO220 func247 [.inl [p],.inl [q],.inl [a.1,a.2],.inl [b.1,b.2],.inl [c.1,c.2]] (.inl (.inl [(LR5 p q a b c).1.1,(LR5 p q a b c).1.2,(LR5 p q a b c).2.1.1,(LR5 p q a b c).2.1.2,(LR5 p q a b c).2.2.1,(LR5 p q a b c).2.2.2])) (let t0:=sc2 b p;let t1:=ng2 (t0.1,t0.2);let t2:=sc2 c q;(.inl (.inl [a.1,a.2,t1.1,t1.2,t2.1,t2.2]),[])) [] kr aI rfl))
theorem fP{f:Nat}{g:Zp→Zp→W2→W2→W2→W6}(en:ai prog f)(h: ∀a b c d e,PUR f [EV a,EV b,EV2 c,EV2 d,EV2 e] (EV6 (g a b c d e))):Snd prog Gt f (c5 q1.ag q1.ag q2.ag q2.ag q2.ag q6.rd g):=WI q1.ag q1.ag q2.ag q2.ag q2.ag q6.rd en (fun a b c d e=>bQ rfl (V6 _).symm (h a b c d e))
def TO221:Tb prog Gt:=TO220.add (fP (g:=LR5) ent247 Kb)
def SHT(a:W6)(b c:W2):W6:=(ad2 (ml2 a.1 b) (xi2 (ml2 a.2.2 c)),E2w.sub (E2w.sub (ml2 (ad2 a.1 a.2.1) (ad2 b c)) (ml2 a.1 b)) (ml2 a.2.1 c),ad2 (ml2 a.2.1 c) (ml2 a.2.2 b))
theorem N7(a:W6)(b c:W2):PUR 248 [EV6 a,EV2 b,EV2 c] (EV6 (SHT a b c)):=(bQ (l3 (V6 _) rfl rfl) (V6 _) (pE TO221 func248 [.inl [a.1.1,a.1.2,a.2.1.1,a.2.1.2,a.2.2.1,a.2.2.2],.inl [b.1,b.2],.inl [c.1,c.2]] (.inl (.inl [(SHT a b c).1.1,(SHT a b c).1.2,(SHT a b c).2.1.1,(SHT a b c).2.1.2,(SHT a b c).2.2.1,(SHT a b c).2.2.2])) (let t0:=ml2 (a.1.1,a.1.2) b;let t1:=ml2 (a.2.1.1,a.2.1.2) c;let t2:=ad2 (a.1.1,a.1.2) (a.2.1.1,a.2.1.2);let t3:=ad2 b c;let t4:=ml2 (t2.1,t2.2) (t3.1,t3.2);let t5:=E2w.sub (t4.1,t4.2) (t0.1,t0.2);let t6:=E2w.sub (t5.1,t5.2) (t1.1,t1.2);let t7:=ml2 (a.2.2.1,a.2.2.2) c;let t8:=xi2 (t7.1,t7.2);let t9:=ad2 (t0.1,t0.2) (t8.1,t8.2);let t10:=ml2 (a.2.2.1,a.2.2.2) b;let t11:=ad2 (t1.1,t1.2) (t10.1,t10.2);(.inl (.inl [t9.1,t9.2,t6.1,t6.2,t11.1,t11.2]),[])) [] kr aI rfl))
theorem jX{f:Nat}{g:W6→W2→W2→W6}(en:ai prog f)(h: ∀a b c,PUR f [EV6 a,EV2 b,EV2 c] (EV6 (g a b c))):Snd prog Gt f (c3 q6.ag q2.ag q2.ag q6.rd g):=Se q6.ag q2.ag q2.ag q6.rd en (fun a b c=>bQ (l3 (V6 _).symm rfl rfl) (V6 _).symm (h a b c))
def TO222:Tb prog Gt:=TO221.add (jX (g:=SHT) ent248 N7)
end Q6
end
section
open Go.RowKit
attribute [local simp] aW bd aU aP aD bf aL aK aB PLl cm cq N1l cr cp cu a8 bg aQ a6 bc J1.bj J2.bj
namespace Q6
theorem CY(a:W6)(b c:W2):SHT a b c=K6.mul a (b,c,ze2):=Prod.ext (zq R2 [a.1,a.2.1,a.2.2,b,c,XI] (ta (tm j0 j3) (txi 5 (tm j2 j4) rfl)) (ta (tm j0 j3) (tm j5 (ta (tm j1 tz0) (tm j2 j4))))) (Prod.ext (zq R2 [a.1,a.2.1,a.2.2,b,c,XI] (ta (ta (tm (ta j0 j1) (ta j3 j4)) (tn (tm j0 j3))) (tn (tm j1 j4))) (ta (ta (tm j0 j4) (tm j1 j3)) (tm j5 (tm j2 tz0)))) (zq R2 [a.1,a.2.1,a.2.2,b,c,XI] (ta (tm j1 j4) (tm j2 j3)) (ta (ta (tm j0 tz0) (tm j1 j4)) (tm j2 j3))))
def TMS(t:W6)(f:W12):W12:=(K6.add (SHT f.1 t.1 t.2.1) (v6 (v6 (sc6 f.2 t.2.2))),sb6 (sb6 (SHT (K6.add f.1 f.2) t.1 (ad2 t.2.1 t.2.2)) (SHT f.1 t.1 t.2.1)) (v6 (sc6 f.2 t.2.2)))
theorem K3(t:W6):lel t=((t.1,t.2.1,ze2),K6.mul (t.2.2,ze2,ze2) VV):=Prod.ext rfl (by rw[xZ];exact Prod.ext (show ze2=xi2 ze2 by rw[Cw];exact (R2.zero_mul _).symm) rfl)
theorem Py(t:W6):(t.1,ad2 t.2.1 t.2.2,ze2)=K6.add (t.1,t.2.1,ze2) (K6.mul (t.2.2,ze2,ze2) VV):=by
 rw[←show ((lel t).2:W6)=K6.mul (t.2.2,ze2,ze2) VV from congrArg Prod.snd (K3 t)]
 exact Prod.ext (R2.add_zero _).symm (Prod.ext rfl (R2.add_zero _).symm)
theorem Ru(t:W6)(f:W12):TMS t f=K12.mul (lel t) f:=by
 rw[TMS,K3,CY,CY,vK,vK,Py,←GI,←xZ,←xZ]
 exact Prod.ext (zq K6 [f.1,f.2,(t.1,t.2.1,ze2),(t.2.2,ze2,ze2),VV] (ta (tm j0 j2) (tm (tm (tm j1 j3) j4) j4)) (ta (tm j2 j0) (tm j4 (tm (tm j3 j4) j1)))) (zq K6 [f.1,f.2,(t.1,t.2.1,ze2),(t.2.2,ze2,ze2),VV] (ta (ta (tm (ta j0 j1) (ta j2 (tm j3 j4))) (tn (tm j0 j2))) (tn (tm (tm j1 j3) j4))) (ta (tm j2 j1) (tm (tm j3 j4) j0)))
theorem xV(t:W6)(f:W12):PUR 217 [EV6 t,ci f] (ci (TMS t f)):=(bQ (l2 (V6 _) (V12 _)) (V12 _) (pE TO222 func217 [.inl [t.1.1,t.1.2,t.2.1.1,t.2.1.2,t.2.2.1,t.2.2.2],.inl [f.1.1.1,f.1.1.2,f.1.2.1.1,f.1.2.1.2,f.1.2.2.1,f.1.2.2.2,f.2.1.1,f.2.1.2,f.2.2.1.1,f.2.2.1.2,f.2.2.2.1,f.2.2.2.2]] (.inl (.inl [(TMS t f).1.1.1,(TMS t f).1.1.2,(TMS t f).1.2.1.1,(TMS t f).1.2.1.2,(TMS t f).1.2.2.1,(TMS t f).1.2.2.2,(TMS t f).2.1.1,(TMS t f).2.1.2,(TMS t f).2.2.1.1,(TMS t f).2.2.1.2,(TMS t f).2.2.2.1,(TMS t f).2.2.2.2])) (let t0:=SHT ((f.1.1.1,f.1.1.2),(f.1.2.1.1,f.1.2.1.2),(f.1.2.2.1,f.1.2.2.2)) (t.1.1,t.1.2) (t.2.1.1,t.2.1.2);let t1:=sc6 ((f.2.1.1,f.2.1.2),(f.2.2.1.1,f.2.2.1.2),(f.2.2.2.1,f.2.2.2.2)) (t.2.2.1,t.2.2.2);let t2:=v6 ((t1.1.1,t1.1.2),(t1.2.1.1,t1.2.1.2),(t1.2.2.1,t1.2.2.2));let t3:=K6.add ((f.1.1.1,f.1.1.2),(f.1.2.1.1,f.1.2.1.2),(f.1.2.2.1,f.1.2.2.2)) ((f.2.1.1,f.2.1.2),(f.2.2.1.1,f.2.2.1.2),(f.2.2.2.1,f.2.2.2.2));let t4:=ad2 (t.2.1.1,t.2.1.2) (t.2.2.1,t.2.2.2);let t5:=SHT ((t3.1.1,t3.1.2),(t3.2.1.1,t3.2.1.2),(t3.2.2.1,t3.2.2.2)) (t.1.1,t.1.2) (t4.1,t4.2);let t6:=v6 ((t2.1.1,t2.1.2),(t2.2.1.1,t2.2.1.2),(t2.2.2.1,t2.2.2.2));let t7:=K6.add ((t0.1.1,t0.1.2),(t0.2.1.1,t0.2.1.2),(t0.2.2.1,t0.2.2.2)) ((t6.1.1,t6.1.2),(t6.2.1.1,t6.2.1.2),(t6.2.2.1,t6.2.2.2));let t8:=sb6 ((t5.1.1,t5.1.2),(t5.2.1.1,t5.2.1.2),(t5.2.2.1,t5.2.2.2)) ((t0.1.1,t0.1.2),(t0.2.1.1,t0.2.1.2),(t0.2.2.1,t0.2.2.2));let t9:=sb6 ((t8.1.1,t8.1.2),(t8.2.1.1,t8.2.1.2),(t8.2.2.1,t8.2.2.2)) ((t2.1.1,t2.1.2),(t2.2.1.1,t2.2.1.2),(t2.2.2.1,t2.2.2.2));(.inl (.inl [t7.1.1,t7.1.2,t7.2.1.1,t7.2.1.2,t7.2.2.1,t7.2.2.2,t9.1.1,t9.1.2,t9.2.1.1,t9.2.1.2,t9.2.2.1,t9.2.2.2]),[])) [] kr aI rfl))
theorem il{f:Nat}{g:W6→W12→W12}(en:ai prog f)(h: ∀a b,PUR f [EV6 a,ci b] (ci (g a b))):Snd prog Gt f (c2 q6.ag q12.ag q12.rd g):=ge q6.ag q12.ag q12.rd en (fun a b=>bQ (l2 (V6 _).symm (V12 _).symm) (V12 _).symm (h a b))
def TO223:Tb prog Gt:=TO222.add (il (g:=TMS) ent217 xV)
theorem v9(t:W6)(f:W12):PUR 217 [EV6 t,ci f] (ci (K12.mul (lel t) f)):=by rw[←Ru];exact xV t f
def TO224:Tb prog Gt:=TO223.add (il (g:=fun t f=>K12.mul (lel t) f) ent217 v9)
def jL(w:WK):List Zp:=[w.1.1,w.1.2,w.2.1.1.1,w.2.1.1.2,w.2.1.2.1,w.2.1.2.2,w.2.2.1.1,w.2.2.1.2,w.2.2.2.1.1,w.2.2.2.1.2,w.2.2.2.2.1,w.2.2.2.2.2]
theorem pM{f:FuncId}{fn:Func}{c:Code}(T:Tb prog Gt)(hf:prog.funcs[f]? =some fn)(a:List S0)(l l':List Zp)(t:TypeId)(u:S0)(vc:S1×CB)(p:Pa)(h:xM T fn c a l t p=some vc)(hc:Ok vc.2)(e:vc.1=.inr [u,.inl l']){b:Nat}{pre post:List Value}{w:World}(hw:Gt w)(hb:8≤b)(ho:OwnB w b (pre++(clv l++post)) t)
 (hbd:fn.body=some c:=by rfl) (hn:Nat.ble (a.length+1) fn.ntmps=true:=by rfl) (hN:Nat.ble fn.ntmps 1000000=true:=by rfl) (ha:a.all npS=true:=by rfl):
 CLS f (.pointer (some ⟨b,pre.length,none⟩)::a.map (dn rid)).toArray w (fun e w'=>e=.returned (dn rid u)∧Mod b w w'∧OwnB w' b (pre++(clv l'++post)) t):=
 IU T dC hf hbd (cs:=vc.2) (by rw[←e];exact h) hc hn hN ha ((gt_low.from (M:=fun k=>k=b) hw (fun m hm=>by subst hm;exact hb)).ok (B:=plM w (fun k=>k=b)) ak) ho
theorem TM{P:Program}{f:FuncId}{xs ys:List Value}{w:World}{b:Nat}{v v':Value}{c c':List Value}{t:TypeId}(h:Calls P f xs.toArray w (fun e w'=>e=.returned v∧Mod b w w'∧OwnB w' b c t))(ha:ys=xs)(hv:v'=v)(hc:c'=c):Calls P f ys.toArray w (fun e w'=>e=.returned v'∧Mod b w w'∧OwnB w' b c' t):=by subst ha;subst hv;subst hc;exact h
theorem mdbl(w:WK){b:Nat}{pre post:List Value}{W:World}(hw:Gt W)(hb:8≤b)(ho:OwnB W b (pre++(clv (jL w)++post)) 264):
 CLS 216 [.pointer (some ⟨b,pre.length,none⟩)].toArray W (fun e W'=>e=.returned (EV6 (rDb w))∧Mod b W W'∧OwnB W' b (pre++(clv (jL (wDb w))++post)) 264):=
 TM (pM TO224 func216 [] ([w.1.1,w.1.2,w.2.1.1.1,w.2.1.1.2,w.2.1.2.1,w.2.1.2.2,w.2.2.1.1,w.2.2.1.2,w.2.2.2.1.1,w.2.2.2.1.2,w.2.2.2.2.1,w.2.2.2.2.2]) (jL (wDb w)) 264 (.inl [(rDb w).1.1,(rDb w).1.2,(rDb w).2.1.1,(rDb w).2.1.2,(rDb w).2.2.1,(rDb w).2.2.2]) (let t0:=(TG2 (w.2.2.1.1,w.2.2.1.2) (w.2.2.2.1.1,w.2.2.2.1.2)).1;let t1:=(TG2 (w.2.2.1.1,w.2.2.1.2) (w.2.2.2.1.1,w.2.2.2.1.2)).2;let t2:=ml2 (w.2.2.2.2.1,w.2.2.2.2.2) (t1.1,t1.2);let t3:=ml2 (t1.1,t1.2) (w.2.2.2.1.1,w.2.2.2.1.2);let t4:=ml2 (w.2.2.2.2.1,w.2.2.2.2.2) (w.2.2.2.2.1,w.2.2.2.2.2);let t5:=ml2 (t0.1,t0.2) (w.2.2.1.1,w.2.2.1.2);let t6:=E2w.sub (t5.1,t5.2) (t3.1,t3.2);let t7:=ml2 (t0.1,t0.2) (t4.1,t4.2);let t8:=ml2 (t2.1,t2.2) (t4.1,t4.2);let t9:=LR5 w.1.1 w.1.2 (t6.1,t6.2) (t7.1,t7.2) (t8.1,t8.2);let t10:=ad2 (t3.1,t3.2) (t3.1,t3.2);let t11:=ml2 (t10.1,t10.2) (w.2.2.1.1,w.2.2.1.2);let t12:=ml2 (t0.1,t0.2) (t0.1,t0.2);let t13:=E2w.sub (t12.1,t12.2) (t11.1,t11.2);let t14:=E2w.sub (t13.1,t13.2) (t11.1,t11.2);let t15:=E2w.sub (t11.1,t11.2) (t14.1,t14.2);let t16:=ml2 (t0.1,t0.2) (t15.1,t15.2);let t17:=ml2 (t10.1,t10.2) (t3.1,t3.2);let t18:=E2w.sub (t16.1,t16.2) (t17.1,t17.2);(.inr [.inl [t9.1.1,t9.1.2,t9.2.1.1,t9.2.1.2,t9.2.2.1,t9.2.2.2],.inl [w.1.1,w.1.2,w.2.1.1.1,w.2.1.1.2,w.2.1.2.1,w.2.1.2.2,t14.1,t14.2,t18.1,t18.2,t2.1,t2.2]],[])) [] kr aI rfl hw hb ho) rfl (V6 _) rfl
theorem mjn(w:WK){b:Nat}{pre post:List Value}{W:World}(h: ¬w.2.2.2.2=ze2)(hw:Gt W)(hb:8≤b)(ho:OwnB W b (pre++(clv (jL w)++post)) 264):
 CLS 218 [.pointer (some ⟨b,pre.length,none⟩)].toArray W (fun e W'=>e=.returned (EV6 (rJn w))∧Mod b W W'∧OwnB W' b (pre++(clv (jL (wJn w))++post)) 264):=by
 rw[show rJn w=LNR (E2w.wjL w.2.2 w.2.1) w.1 from if_neg h,show wJn w=(w.1,w.2.1,E2w.wjJ w.2.2 w.2.1)from if_neg h]
 exact TM (pM TO224 func218 [] ([w.1.1,w.1.2,w.2.1.1.1,w.2.1.1.2,w.2.1.2.1,w.2.1.2.2,w.2.2.1.1,w.2.2.1.2,w.2.2.2.1.1,w.2.2.2.1.2,w.2.2.2.2.1,w.2.2.2.2.2]) (jL ((w.1,w.2.1,E2w.wjJ w.2.2 w.2.1))) 264 (.inl [(LNR (E2w.wjL w.2.2 w.2.1) w.1).1.1,(LNR (E2w.wjL w.2.2 w.2.1) w.1).1.2,(LNR (E2w.wjL w.2.2 w.2.1) w.1).2.1.1,(LNR (E2w.wjL w.2.2 w.2.1) w.1).2.1.2,(LNR (E2w.wjL w.2.2 w.2.1) w.1).2.2.1,(LNR (E2w.wjL w.2.2 w.2.1) w.1).2.2.2]) (let t0:=ml2 (w.2.2.2.2.1,w.2.2.2.2.2) (w.2.2.2.2.1,w.2.2.2.2.2);let t1:=ml2 (w.2.1.2.1,w.2.1.2.2) (t0.1,t0.2);let t2:=ml2 (t1.1,t1.2) (w.2.2.2.2.1,w.2.2.2.2.2);let t3:=E2w.sub (t2.1,t2.2) (w.2.2.2.1.1,w.2.2.2.1.2);let t4:=ml2 (w.2.1.1.1,w.2.1.1.2) (t0.1,t0.2);let t5:=E2w.sub (t4.1,t4.2) (w.2.2.1.1,w.2.2.1.2);let t6:=ml2 (w.2.2.2.2.1,w.2.2.2.2.2) (t5.1,t5.2);let t7:=ml2 (t3.1,t3.2) (w.2.1.1.1,w.2.1.1.2);let t8:=ml2 (t6.1,t6.2) (w.2.1.2.1,w.2.1.2.2);let t9:=E2w.sub (t7.1,t7.2) (t8.1,t8.2);let t10:=LR5 w.1.1 w.1.2 (t9.1,t9.2) (t3.1,t3.2) (t6.1,t6.2);let t11:=ml2 (t5.1,t5.2) (t5.1,t5.2);let t12:=ml2 (t11.1,t11.2) (t5.1,t5.2);let t13:=ml2 (t11.1,t11.2) (w.2.2.1.1,w.2.2.1.2);let t14:=ml2 (t3.1,t3.2) (t3.1,t3.2);let t15:=E2w.sub (t14.1,t14.2) (t12.1,t12.2);let t16:=E2w.sub (t15.1,t15.2) (t13.1,t13.2);let t17:=E2w.sub (t16.1,t16.2) (t13.1,t13.2);let t18:=E2w.sub (t13.1,t13.2) (t17.1,t17.2);let t19:=ml2 (t3.1,t3.2) (t18.1,t18.2);let t20:=ml2 (t12.1,t12.2) (w.2.2.2.1.1,w.2.2.2.1.2);let t21:=E2w.sub (t19.1,t19.2) (t20.1,t20.2);(.inr [.inl [t10.1.1,t10.1.2,t10.2.1.1,t10.2.1.2,t10.2.2.1,t10.2.2.2],.inl [w.1.1,w.1.2,w.2.1.1.1,w.2.1.1.2,w.2.1.2.1,w.2.1.2.2,t17.1,t17.2,t21.1,t21.2,t6.1,t6.2]],[(decide ((w.2.2.2.2.1,w.2.2.2.2.2)=ze2),false)])) [some false] kr (aw (decide_eq_false h) aI) rfl hw hb ho) rfl (V6 _) rfl
end Q6
end
section
open Go.RowKit
attribute [local simp] aW bd aU aP aD bf aL aK aB PLl cm cq N1l cr cp cu a8 bg aQ a6 bc
theorem Ra:PUR 241 [U64 15132376222941642752#64] (I 64):=by
 intro w hw
 refine Hf func241 rfl hw<|fun hGF=>Xp<|Asg rfl<|aa<|ah<|Xp<|Mv rfl<|Bnb true rfl rfl (fun _=>ka _ _ _) dc<|aa<|aV rfl<|Xp<|Mv rfl<|Bnr (v:=U64 3523280896#64) rfl rfl (fun _=>(dJ _ _ 32#64).trans rr)<|Asg rfl<|aa<|Xq<|Asg rfl<|aa<|ah<|Xp<|Mv rfl<|Bnb true rfl rfl (fun _=>ka _ _ _) dc<|aa<|aV rfl<|Xp<|Mv rfl<|Bnr (v:=U64 53761#64) rfl rfl (fun _=>(dJ _ _ 16#64).trans rr)<|Asg rfl<|aa<|Xq<|Mv rfl<|Bnr (v:=I 48) rfl rfl (fun _=>(aA _ _ _ (by unfold inI;decide)).trans rr)<|Asg rfl<|aa<|ah<|Xp<|Mv rfl<|Bnb true rfl rfl (fun _=>ka _ _ _) dc<|aa<|aV rfl<|?_
 refine Xp<|Mv rfl<|Bnr (v:=U64 210#64) rfl rfl (fun _=>(dJ _ _ 8#64).trans rr)<|Asg rfl<|aa<|Xq<|Mv rfl<|Bnr (v:=I 56) rfl rfl (fun _=>(aA _ _ _ (by unfold inI;decide)).trans rr)<|Asg rfl<|aa<|Xp<|Mv rfl<|Mv rfl<|cT rfl rfl (fun _=>ir underlying24 underlying5 _) rfl rfl<|I4 (n:=8#8) rfl rfl underlying9 dc kr rfl rfl<|cT rfl rfl (fun _=>Bd underlying5 underlying3 _) rfl rfl<|Bnr (v:=I 64) rfl rfl (fun _=>(aA _ _ _ (by unfold inI;decide)).trans rr)<|Asg rfl<|aa<|am<|Rr<|?_
 exact aE rfl rfl (fun w hw=>⟨rfl,ac hw⟩)
theorem wZ:PUR 214 [] (.func (.func 240) #[] #[]):=by
 intro w hw
 refine Hf func214 rfl hw<|fun hGF=>Xp<|Asg rfl<|aa<|Xp<|Asg rfl<|aa<|am<|Rr<|?_
 exact aE rfl rfl (fun w hw=>⟨rfl,ac hw⟩)
def DGb(k:Nat):Bool:=15132376222941642752#64>>>(62-k) &&& 1#64==1#64
def D63:List Bool:=(List.range 63).map DGb
theorem mF:D63.length=63:=by rw[D63,List.length_map,List.length_range]
theorem Aj{k:Nat}(h:k<63):D63[k]? =some (DGb k):=by rw[D63,List.getElem?_map,List.getElem?_range h];rfl
def DGs:List (List Value):=D63.map fun d=>[.bool d]
theorem l5:DGs.length=63:=by rw[DGs,List.length_map,mF]
theorem yq{k:Nat}(h:k<63):DGs[k]? =some [.bool (DGb k)]:=by rw[DGs,List.getElem?_map,Aj h];rfl
theorem wI{k:Nat}{v:List Value}(h:DGs[k]? =some v):k<63∧v=[.bool (DGb k)]:=by
 have hk:k<63:=by
  rcases Nat.lt_or_ge k 63 with hk|hk
  ·exact hk
  ·rw[List.getElem?_eq_none (by rw[l5];exact hk)]at h;cases h
 exact ⟨hk,(Option.some.inj ((yq hk).symm.trans h)).symm⟩
theorem oJ:eG prog Gt 240 [] DGs (fun _=>True):=by
 intro l J Jx hJ hJx hRd hGx hY w hj
 have okJ: ∀k,BOk Gt (Bi w (fun Y=>J Y k)):=fun k=>⟨fun _ _ _ h=>(hRd _ _ _ h.rid).1,hJ k⟩
 have okX: ∀k,BOk Gt (Bi w (fun Y=>Jx Y k)):=fun k=>⟨fun _ _ _ h=>hGx _ _ _ h.rid,hJx k⟩
 refine cb (G:=Gt) func240 rfl rfl (Hp (Bi w (fun Y=>J Y 0)) []) (bO (Bi w _) hj (hJ 0)) (au (okJ 0))<|Xp<|Ca rfl (Ra)<|Bnr (v:=I 62) rfl rfl (fun _=>(bu _ _ _ (by unfold inI;decide)).trans rr)<|Asg rfl<|aa<|aj<|fB (ι:={k:Nat // k≤63}) (fun x=>[(0,.func (.yield l) #[] #[]),(2,I (62-(x.1:Int)))]) (fun x=>Bi w (fun Y=>J Y x.1)) (fun x=>[]) (fun x=>63-x.1) ⟨0,Nat.zero_le _⟩ (fun _=>okJ _) rfl trv trivial<|?_
 rintro ⟨k,hk⟩
 dsimp only
 refine ah<|Xp<|Mv rfl<|Bnr (v:=.bool (decide (k<63))) rfl rfl (fun _=>(dU _ _ _).trans (by rw[show decide ((62-(k:Int))≥0)=decide (k<63)from decide_eq_decide.2 om]))<|aa<|?_
 refine bZ rfl (fun hc=> ?_) (fun hc=> ?_)
 ·have hk2:k<63:=by simpa using hc
  refine ap<|ah<|aj<|Xp<|Mv rfl<|Mv rfl<|Bnr (v:=U64 (15132376222941642752#64>>>(62-k))) rfl rfl (fun _=>(eS _ _ _ om).trans (by rw[show (62-(k:Int)).toNat=62-k by omega]))<|Bnr (v:=U64 (15132376222941642752#64>>>(62-k) &&& 1#64)) rfl rfl (fun _=>fw _ _ 1#64)<|Bnr (v:=.bool (DGb k)) rfl rfl (fun _=>bX _ _ 1#64)<|?_
  refine cX (hY.b (k:=k) (yq hk2) w) (okJ _) (okX _) rfl rfl rfl rfl rfl ?_ ?_
  ·refine aY rfl (fun _=>aJ _) rfl rfl<|aa<|aq rfl<|ap<|Xq<|Mv rfl<|Bnr (v:=I (62-((k+1:Nat):Int))) rfl rfl (fun _=>(bu _ _ _ oi).trans (by rw[show 62-(k:Int)-1=62-((k+1:Nat):Int) by omega]))<|Asg rfl<|aa<|?_
   repeat (refine a7 ?_)
   exact aR<|⟨rfl,⟨k+1,om⟩,_,by show 63-(k+1)<63-k;omega,rfl,trv,trivial⟩
  ·refine aY rfl (fun _=>aJ _) rfl rfl<|aa<|aV rfl<|am<|Rr<|?_
   repeat (first|refine cZ ?_|refine bY ?_|refine cU rfl ?_|refine bq ?_|refine bt ?_)
   exact cR rfl (fun w hw=>⟨⟨_,rfl⟩,.inr ⟨_,bD (hJx _) hw.rid⟩⟩)
 ·obtain rfl:k=63:=by simp at hc;omega
  refine be ?_
  repeat (first|refine cZ ?_|refine bY ?_|refine cU rfl ?_|refine bq ?_|refine bt ?_)
  refine cn rfl (fun w hw=>⟨⟨_,rfl⟩,.inl ?_⟩)
  have:=bD (hJ _) hw.rid
  rw[l5]
  exact this
end
section
open Go.RowKit
attribute [local simp] aW bd aU aP aD bf aL aK aB PLl cm cq N1l cr cp cu a8 bg aQ a6 bc J1.bj J2.bj Q6.eI
def pwD(x:W12)(k:Nat):W12:=K12.pw x (bU (D63.take k) 1)
theorem pq{k:Nat}(h:k<63):D63.take (k+1)=D63.take k++[DGb k]:=by rw[List.take_add_one,Aj h];rfl
theorem Lt(x:W12){k:Nat}(h:k<63)(hd:DGb k=true):K12.mul (K12.mul (pwD x k) (pwD x k)) x=pwD x (k+1):=by
 rw[pwD,pwD,pq h,iK,hd,←K12.pw_add,←Nat.two_mul];rfl
theorem LR(x:W12){k:Nat}(h:k<63)(hd:DGb k=false):K12.mul (pwD x k) (pwD x k)=pwD x (k+1):=by
 rw[pwD,pwD,pq h,iK,hd,←K12.pw_add,←Nat.two_mul];rfl
theorem KI:D63=L63:=by decide+kernel
theorem RD(x:W12):pwD x 63=K12.pw x UG:=by rw[pwD,List.take_of_length_le (by rw[mF];exact Nat.le_refl _),KI,uV]
namespace Q6
theorem sn(k:Nat)(hk:k≤63):0<bU (D63.take k) 1∧bU (D63.take k) 1<2^(k+1):=by
 refine ⟨nb _ _ Nat.one_pos, ?_⟩
 have h:=pJ (D63.take k) 1
 rw[List.length_take,mF,Nat.min_eq_left hk]at h
 rw[Nat.pow_succ]
 omega
theorem Rc{k:Nat}(hk:k<63):2*bU (D63.take k) 1+1<ORD:=by
 have h:=(sn k om).2
 have h2:2^(k+1)≤2^63:=Nat.pow_le_pow_right om om
 have h3:2*2^63+1<ORD:=by decide+kernel
 omega
end Q6
end
section
open Go.RowKit
attribute [local simp] aW bd aU aP aD bf aL aK aB PLl cm cq N1l cr cp cu a8 bg aQ a6 bc J1.bj J2.bj Q6.eI
namespace Q6
def PRv(a:J1.GP×J2.GP):L6:=J1.GL a.1++J2.GL a.2
theorem fy(a:J1.GP×J2.GP):(PRv a).length=54:=by simp[PRv]
attribute [local simp] fy
theorem zv182(w:World):(zeroValue 182).run prog w=.ok (aT (List.replicate 54 (0#64))) w:=(zeroValue182 w).trans rr
def WSf(f:Nat→J1.GP×J2.GP):Nat→List WK
 |0=>[]
 |i+1=>if (f i).1.P=none then WSf f i else if (f i).2.P=none then WSf f i else WSf f i++[wkB (J1.PX (f i).1.P,J1.PY (f i).1.P) (J2.PX (f i).2.P,J2.PY (f i).2.P)]
theorem vk{f:Nat→J1.GP×J2.GP}{i:Nat}(h:(f i).1.P=none):WSf f (i+1)=WSf f i:=if_pos h
theorem uK{f:Nat→J1.GP×J2.GP}{i:Nat}(h: ¬(f i).1.P=none)(k:(f i).2.P=none):WSf f (i+1)=WSf f i:=(if_neg h).trans (if_pos k)
theorem Gs{f:Nat→J1.GP×J2.GP}{i:Nat}(h: ¬(f i).1.P=none)(k: ¬(f i).2.P=none):WSf f (i+1)=WSf f i++[wkB (J1.PX (f i).1.P,J1.PY (f i).1.P) (J2.PX (f i).2.P,J2.PY (f i).2.P)]:=(if_neg h).trans (if_neg k)
theorem tF(f:Nat→J1.GP×J2.GP): ∀i,(WSf f i).length≤i
 |0=>Nat.le_refl _
 |i+1=>by
  have h:=tF f i
  rw[WSf]
  split
  ·omega
  ·split
   ·omega
   ·rw[List.length_append];simp;omega
def wcl(l:List WK):List Value:=clv (l.flatMap jL)
theorem pN(w:WK):(jL w).length=12:=rfl
theorem n7(l m:List WK):wcl (l++m)=wcl l++wcl m:=by rw[wcl,List.flatMap_append,iq];rfl
theorem p8(w:WK)(l:List WK):wcl (w::l)=clv (jL w)++wcl l:=by rw[wcl,List.flatMap_cons,iq];rfl
theorem zz(w:WK):wcl [w]=clv (jL w):=by rw[p8];exact List.append_nil _
theorem s8: ∀l:List WK,(wcl l).length=72*l.length
 |[]=>rfl
 |w::l=>by rw[p8,List.length_append,s8 l,cD,pN,List.length_cons];omega
theorem OwnW.of{L L':Hl}{n:Nat}{e:TypeId}{s:Nat}{a0:Option Addr}{cap nx:Nat}{xs:List Value}(h:OwnW L n e s a0 cap nx xs)(he:lkB L' n=lkB L n):OwnW L' n e s a0 cap nx xs:=by
 rcases h with h|⟨b,c,h1,h2,h3⟩
 ·exact .inl h
 ·exact .inr ⟨b,c,h1,he.trans h2,h3⟩
theorem NF(a b:Zp)(c d e f g:W2)(w:World):(Instr.build 264 (([0,1,2,3,4,5,6]).zip [EV a,EV b,EV2 c,EV2 d,EV2 e,EV2 f,EV2 g]).toArray).run prog w=.ok (.agg (clv [a,b,c.1,c.2,d.1,d.2,e.1,e.2,f.1,f.2,g.1,g.2]).toArray) w:=by
 obtain ⟨fields,hf,hm,_⟩:=TB.hfs 264 [(0,1),(1,1),(2,2),(4,2),(6,2),(8,2),(10,2)] kr
 exact fQ (TB.hsz 264 12 kr).2.2 hf hm _ (qk (ps:=[(0,[a]),(1,[b]),(2,[c.1,c.2]),(3,[d.1,d.2]),(4,[e.1,e.2]),(5,[f.1,f.2]),(6,[g.1,g.2])]) (c:=List.replicate 12 0) rr) w
theorem tiW:TI prog 264 (.agg (clv (List.replicate 12 0)).toArray) 72 576:=yg (by rw[clv,pg];kernel_rfl)
theorem FY{own L:Hl}(ho:own=[]∨∃x,own=[(50,x)])(h:lkB L 50=lkB own 50):i6 L own:=by
 rcases ho with rfl|⟨x,rfl⟩
 ·exact trivial
 ·exact ⟨h,trivial⟩
structure BgV(f:Nat→J1.GP×J2.GP)(n:Nat) where
 (k:Nat) (a0:Option Addr) (cap:Nat) (own:Hl)
 hk:k≤n
 hs:OwnW own 50 264 72 a0 cap (WSf f k).length (wcl (WSf f k))
 ho:own=[]∨∃x,own=[(50,x)]
 hz:WSf f k=[]→a0=none
theorem Jz{w:World}(h:Gt w):8≤w.heap.size:=block_lt_of_cell (h.g7 0 _ rr)
theorem I0(n:Nat)(f:Nat→J1.GP×J2.GP)(b cap:Nat)(hn:n≤1000)(w:World)(hw:Gt w)(h:w.rangeAt b 0 ((RW 54 (fun i=>PRv (f i)) n).map U64)):
 CLS 213 [.slice (spt b) n cap].toArray w (fun e w'=>(∃bW cW capW,e=.returned (.slice (spt bW) (WSf f n).length capW)∧Grow w w'∧w.heap.size≤bW∧OwnB w' bW cW 264∧cW.take (wcl (WSf f n)).length=wcl (WSf f n)∧WSf f n≠[])∨(WSf f n=[]∧e=.returned (.slice none 0 0)∧Grow w w')):=by
 have hGF:BOk Gt (pl w):=gt_low.plain hw
 have fin: ∀{L:Hl} {a0:Option Addr} {cap:Nat} {w':World},OwnW L 50 264 72 a0 cap (WSf f n).length (wcl (WSf f n))→(WSf f n=[]→a0=none)→Hp (pl w) L w'→(∃bW cW capW,Ending.returned (.slice a0 (WSf f n).length cap)=.returned (.slice (spt bW) (WSf f n).length capW)∧Grow w w'∧w.heap.size≤bW∧OwnB w' bW cW 264∧cW.take (wcl (WSf f n)).length=wcl (WSf f n)∧WSf f n≠[])∨(WSf f n=[]∧Ending.returned (.slice a0 (WSf f n).length cap)=.returned (.slice none 0 0)∧Grow w w'):=fun {L a0 cap w'} h hz hp=>by
  rcases h with ⟨rfl,_,h3,rfl⟩|⟨b,c,rfl,hl,hc,hle,hx,ht⟩
  ·exact .inr ⟨List.length_eq_zero_iff.1 h3,by rw[h3],ac hp⟩
  ·exact .inl ⟨b,c,cap,rfl,ac hp,(hp.own _ _ _ _ hl).2.elim id False.elim,(hp.own _ _ _ _ hl).1,ht,fun e=>by cases hz e⟩
 refine Hd func213 rfl hGF<|Xp<|Asg rfl<|aa<|gz<|Xp<|Asg rfl<|aa<|ah<|i9<|ah<|Xp<|Mv rfl<|a5 rfl (fun _=>az underlying183 _ _ _ _) rfl rfl<|Mv rfl<|aa<|aj<|cG (ι:=BgV f n) (fun x=>[(11,.slice (spt b) n cap),(12,I (n:Int)),(13,I (x.k:Int)),(3,.slice x.a0 (WSf f x.k).length x.cap)]) (fun x=>x.own) (fun x=>n-x.k) ⟨0,none,0,[],om,GO _ _ _ _,.inl rfl,fun _=>rfl⟩ hGF trv trivial<|?_
 rintro ⟨i,a0,cap0,own,hi,hs,ho,hz⟩
 dsimp only at hs ho hz⊢
 have hwl:=tF f i
 by_cases hP:(f i).1.P=none
 ·refine Xp<|Bnr rfl rfl (fun _=>aF _ _ _)<|aa<|ah<|?_
  refine bZ rfl (fun hc=> ?_) (fun hc=> ?_)
  ·have hi2:i<n:=by simp at hc;omega
   refine ap<|ah<|aj<|Xp<|i3 (s:=54) i rfl rfl underlying183 sizeOf182 om om rfl rfl<|dv (cs:=(PRv (f i)).map U64) rfl isAgg182 sizeOf182 sm (fun w' h'=>iY (fu h (fun h=>h) w' h') om (fy _)) rfl rfl<|Al 5 hGF zv182<|fun b5=>Sa 5 hGF rfl rfl rfl C7<|aa<|Xp<|Fa 0 rfl underlying182 rfl sizeOf54<|av 5 ((J1.GL (f i).1).map U64) rfl rfl isAgg54 sizeOf54 sm dR rfl rfl<|Ca rfl (J1.GY _ hP)<|Mv rfl<|Ext rfl rfl<|Ext rfl rfl<|Ext rfl rfl<|Al 6 hGF zv52<|fun b6=>Al 7 hGF zv52<|fun b7=>Sa 6 hGF rfl rfl rfl bv<|Sa 7 hGF rfl rfl rfl bv<|Asg rfl<|aa<|ah<|Xp<|Mv rfl<|aY rfl (fun _=>aJ _) rfl rfl<|aa<|aV rfl<|be<|Xq<|Bnr rfl rfl (fun _=>aA _ _ _ oi)<|Mv rfl<|aa<|?_
   repeat (first|refine a7 ?_|refine bY ?_)
   exact aR<|⟨rfl,⟨i+1,a0,cap0,own,om,by rw[vk hP];exact hs,ho,by rw[vk hP];exact hz⟩,_,by show n-(i+1)<n-i;omega,rfl,⟨rfl,rfl,rfl,by dsimp only;rw[vk hP];rfl,trivial⟩,FY ho rfl⟩
  ·obtain rfl:i=n:=by simp at hc;omega
   refine be<|Xp<|Mv rfl<|Asg rfl<|aa<|am<|?_
   repeat (first|refine bq ?_|refine bt ?_|refine dO ?_)
   exact aE rfl rfl (fun w' hw'=>fin hs hz hw')
 ·by_cases hQ:(f i).2.P=none
  ·refine Xp<|Bnr rfl rfl (fun _=>aF _ _ _)<|aa<|ah<|?_
   refine bZ rfl (fun hc=> ?_) (fun hc=> ?_)
   ·have hi2:i<n:=by simp at hc;omega
    refine ap<|ah<|aj<|Xp<|i3 (s:=54) i rfl rfl underlying183 sizeOf182 om om rfl rfl<|dv (cs:=(PRv (f i)).map U64) rfl isAgg182 sizeOf182 sm (fun w' h'=>iY (fu h (fun h=>h) w' h') om (fy _)) rfl rfl<|Al 5 hGF zv182<|fun b5=>Sa 5 hGF rfl rfl rfl C7<|aa<|Xp<|Fa 0 rfl underlying182 rfl sizeOf54<|av 5 ((J1.GL (f i).1).map U64) rfl rfl isAgg54 sizeOf54 sm dR rfl rfl<|Ca rfl (J1.ut _ hP)<|Mv rfl<|Ext rfl rfl<|Ext rfl rfl<|Ext rfl rfl<|Al 6 hGF zv52<|fun b6=>Al 7 hGF zv52<|fun b7=>Sa 6 hGF rfl rfl rfl bv<|Sa 7 hGF rfl rfl rfl bv<|Asg rfl<|aa<|ah<|Xp<|Mv rfl<|aY rfl (fun _=>aJ _) rfl rfl<|aa<|aq rfl<|ap<|Xp<|Fa 18 rfl underlying182 rfl sizeOf94<|av 5 ((J2.GL (f i).2).map U64) rfl rfl isAgg94 sizeOf94 sm (iF sm) rfl rfl<|Ca rfl (J2.GY _ hQ)<|Mv rfl<|Ext rfl rfl<|Ext rfl rfl<|Ext rfl rfl<|Al 9 hGF zv92<|fun b9=>Al 10 hGF zv92<|?_
    intro b10
    refine Sa 9 hGF rfl rfl rfl aH<|Sa 10 hGF rfl rfl rfl aH<|Asg rfl<|aa<|ah<|Xp<|Mv rfl<|aY rfl (fun _=>aJ _) rfl rfl<|aa<|aV rfl<|be<|Xq<|Bnr rfl rfl (fun _=>aA _ _ _ oi)<|Mv rfl<|aa<|?_
    repeat (first|refine a7 ?_|refine bY ?_)
    exact aR<|⟨rfl,⟨i+1,a0,cap0,own,om,by rw[uK hP hQ];exact hs,ho,by rw[uK hP hQ];exact hz⟩,_,by show n-(i+1)<n-i;omega,rfl,⟨rfl,rfl,rfl,by dsimp only;rw[uK hP hQ];rfl,trivial⟩,FY ho rfl⟩
   ·obtain rfl:i=n:=by simp at hc;omega
    refine be<|Xp<|Mv rfl<|Asg rfl<|aa<|am<|?_
    repeat (first|refine bq ?_|refine bt ?_|refine dO ?_)
    exact aE rfl rfl (fun w' hw'=>fin hs hz hw')
  ·refine Xp<|Bnr rfl rfl (fun _=>aF _ _ _)<|aa<|ah<|?_
   refine bZ rfl (fun hc=> ?_) (fun hc=> ?_)
   ·have hi2:i<n:=by simp at hc;omega
    refine ap<|ah<|aj<|Xp<|i3 (s:=54) i rfl rfl underlying183 sizeOf182 om om rfl rfl<|dv (cs:=(PRv (f i)).map U64) rfl isAgg182 sizeOf182 sm (fun w' h'=>iY (fu h (fun h=>h) w' h') om (fy _)) rfl rfl<|Al 5 hGF zv182<|fun b5=>Sa 5 hGF rfl rfl rfl C7<|aa<|Xp<|Fa 0 rfl underlying182 rfl sizeOf54<|av 5 ((J1.GL (f i).1).map U64) rfl rfl isAgg54 sizeOf54 sm dR rfl rfl<|Ca rfl (J1.ut _ hP)<|Mv rfl<|Ext rfl rfl<|Ext rfl rfl<|Ext rfl rfl<|Al 6 hGF zv52<|fun b6=>Al 7 hGF zv52<|fun b7=>Sa 6 hGF rfl rfl rfl bv<|Sa 7 hGF rfl rfl rfl bv<|Asg rfl<|aa<|ah<|Xp<|Mv rfl<|aY rfl (fun _=>aJ _) rfl rfl<|aa<|aq rfl<|ap<|Xp<|Fa 18 rfl underlying182 rfl sizeOf94<|av 5 ((J2.GL (f i).2).map U64) rfl rfl isAgg94 sizeOf94 sm (iF sm) rfl rfl<|Ca rfl (J2.ut _ hQ)<|Mv rfl<|Ext rfl rfl<|Ext rfl rfl<|Ext rfl rfl<|Al 9 hGF zv92<|fun b9=>Al 10 hGF zv92<|?_
    intro b10
    refine Sa 9 hGF rfl rfl rfl aH<|Sa 10 hGF rfl rfl rfl aH<|Asg rfl<|aa<|ah<|Xp<|Mv rfl<|aY rfl (fun _=>aJ _) rfl rfl<|aa<|aq rfl<|ap<|Xe []<|Mv rfl<|La 6 rfl rfl bv<|La 7 rfl rfl bv<|La 9 rfl rfl aH<|La 10 rfl rfl aH<|La 9 rfl rfl aH<|La 10 rfl rfl aH<|Ca rfl (q8)<|dS (ps:=[(0,.tmp 36),(1,.tmp 37),(2,.tmp 38),(3,.tmp 39),(4,.tmp 40),(5,.tmp 41),(6,.tmp 42)]) (vs:=[EV (J1.PX (f i).1.P),EV (J1.PY (f i).1.P),EV2 (J2.PX (f i).2.P),EV2 (J2.PY (f i).2.P),EV2 (J2.PX (f i).2.P),EV2 (J2.PY (f i).2.P),EV2 on2]) rfl (v:=.agg (clv (jL (wkB (J1.PX (f i).1.P,J1.PY (f i).1.P) (J2.PX (f i).2.P,J2.PY (f i).2.P)))).toArray) (fun w=>NF _ _ _ _ _ _ _ w) rfl rfl<|GR 44 (clv (jL (wkB (J1.PX (f i).1.P,J1.PY (f i).1.P) (J2.PX (f i).2.P,J2.PY (f i).2.P)))) hGF rfl (by rw[cD,pN]) dc dc underlying256 sizeOf264 (TB.hsz 264 12 kr).2.2 rfl rfl<|?_
    intro b44
    refine wS (s:=72) (nx:=(WSf f i).length) (ny:=1) (xs:=wcl (WSf f i)) (ys:=clv (jL (wkB (J1.PX (f i).1.P,J1.PY (f i).1.P) (J2.PX (f i).2.P,J2.PY (f i).2.P)))) 50 hGF rfl rfl underlying256 underlying256 tiW rfl (OwnW.of hs rfl) (by rw[cD,pN]) (fun w' h=>aO (n:=44) rfl w' h) (yx _) dc om om rfl rfl (fun bA cA capA eA lA tA=> ?_)
    refine Asg rfl<|aa<|Xq<|Bnr rfl rfl (fun _=>aA _ _ _ oi)<|Mv rfl<|aa<|?_
    repeat (first|refine a7 ?_|refine bY ?_)
    refine aR ?_
    have eW:=Gs hP hQ
    have eL:(WSf f (i+1)).length=(WSf f i).length+1:=by rw[eW,List.length_append];rfl
    have eC:wcl (WSf f (i+1))=wcl (WSf f i)++clv (jL (wkB (J1.PX (f i).1.P,J1.PY (f i).1.P) (J2.PX (f i).2.P,J2.PY (f i).2.P))):=by rw[eW,n7,zz]
    exact ⟨rfl,⟨i+1,some ⟨bA,0,none⟩,capA,[(50,bA,cA,264)],om,.inr ⟨bA,cA,rfl,rfl,eA,om,by rw[s8,Nat.mul_comm],by rw[eC];exact tA⟩,.inr ⟨_,rfl⟩,fun e=>by rw[e]at eL;cases eL⟩,_,by show n-(i+1)<n-i;omega,rfl,⟨rfl,rfl,rfl,by dsimp only;rw[eL];rfl,trivial⟩,trv⟩
   ·obtain rfl:i=n:=by simp at hc;omega
    refine be<|Xp<|Mv rfl<|Asg rfl<|aa<|am<|?_
    repeat (first|refine bq ?_|refine bt ?_|refine dO ?_)
    exact aE rfl rfl (fun w' hw'=>fin hs hz hw')
end Q6
end
section
open Go.RowKit
attribute [local simp] aW bd aU aP aD bf aL aK aB PLl cm cq N1l cr cp cu a8 bg aQ a6 bc J1.bj J2.bj Q6.eI
namespace Q6
abbrev m4(x:W12):List Value:=(((fe ((x).1.1).1++fe ((x).1.1).2)++((fe ((x).1.2.1).1++fe ((x).1.2.1).2)++(fe ((x).1.2.2).1++fe ((x).1.2.2).2)))++((fe ((x).2.1).1++fe ((x).2.1).2)++((fe ((x).2.2.1).1++fe ((x).2.2.1).2)++(fe ((x).2.2.2).1++fe ((x).2.2.2).2)))).map U64
theorem lK(x:W12):(m4 x).length=72:=sm
def mkC(fs:List Nat)(o:Oper):Bool:=match o.op with
 | .call {callee:=.value (.func f), .. }=>fs.any (Nat.beq f)
 |_=>false
def SK(W:List WK)(k:Nat):List WK×W12:=rdK (D63.take k) (W,K12.one)
theorem Wy(W:List WK){k:Nat}(h:k<63):SK W (k+1)=rdF (DGb k) (SK W k):=by rw[SK,pq h,zv];rfl
theorem w8(W:List WK){k:Nat}(h:k<63)(hd:DGb k=false):SK W (k+1)=((SK W k).1.map wDb,e9 rDb (SK W k).1 (K12.mul (SK W k).2 (SK W k).2)):=by rw[Wy W h,hd];rfl
theorem wg(W:List WK){k:Nat}(h:k<63)(hd:DGb k=true):SK W (k+1)=(((SK W k).1.map wDb).map wJn,e9 rJn ((SK W k).1.map wDb) (e9 rDb (SK W k).1 (K12.mul (SK W k).2 (SK W k).2))):=by rw[Wy W h,hd];rfl
theorem kj(W:List WK): ∀k,k≤63→(SK W k).1.length=W.length
 |0,_=>rfl
 |k+1,h=>by
  have ih:=kj W k om
  cases d:DGb k with
  |false=>rw[w8 W om d,List.length_map];exact ih
  |true=>rw[wg W om d,List.length_map,List.length_map];exact ih
theorem na(g:WK→W6): ∀(l:List WK) (w:WK) (f:W12),e9 g (l++[w]) f=K12.mul (lel (g w)) (e9 g l f)
 |[],_,_=>rfl
 |v::l,w,f=>na g l w (K12.mul (lel (g v)) f)
theorem xB{l:List WK}{j:Nat}{w:WK}(h:l[j]? =some w):l.take (j+1)=l.take j++[w]:=by rw[List.take_add_one,h];rfl
theorem QQ{l:List WK}{j:Nat}{w:WK}(h:l[j]? =some w):l.drop j=w::l.drop (j+1):=by
 have hj:=(List.getElem?_eq_some_iff.1 h).1
 rw[List.drop_eq_getElem_cons hj]
 exact congrArg (·::_) (List.getElem?_eq_some_iff.1 h).2
def upW(g:WK→WK)(l:List WK)(j:Nat):List WK:=(l.take j).map g++l.drop j
theorem TJ{g:WK→WK}{l:List WK}{j:Nat}{w:WK}(h:l[j]? =some w)(post:List Value):wcl (upW g l j)++post=wcl ((l.take j).map g)++(clv (jL w)++(wcl (l.drop (j+1))++post)):=by
 rw[upW,QQ h,n7,p8]
 simp only[List.append_assoc]
theorem Ui{g:WK→WK}{l:List WK}{j:Nat}{w:WK}(h:l[j]? =some w)(post:List Value):wcl (upW g l (j+1))++post=wcl ((l.take j).map g)++(clv (jL (g w))++(wcl (l.drop (j+1))++post)):=by
 rw[upW,xB h,List.map_append,n7,n7,show [w].map g=[g w]from rfl,zz]
 simp only[List.append_assoc]
theorem Uv{g:WK→WK}{l:List WK}{j:Nat}{w:WK}(h:l[j]? =some w):(wcl ((l.take j).map g)).length=0+72*j:=by
 have hj:=(List.getElem?_eq_some_iff.1 h).1
 rw[s8,List.length_map,List.length_take,Nat.min_eq_left om,Nat.zero_add]
theorem Uo(g:WK→WK)(l:List WK):upW g l 0=l:=rfl
theorem Kl(g:WK→WK){l:List WK}{j:Nat}(h:l.length=j):upW g l j=l.map g:=by
 rw[upW,List.take_of_length_le om,List.drop_eq_nil_of_le om,List.append_nil]
theorem Sy{f:FuncId}{g:WK→WK}{u:WK→W6}{l:List WK}{j:Nat}{w:WK}(h:l[j]? =some w){b:Nat}{post:List Value}{W:World}(ho:OwnB W b (wcl (upW g l j)++post) 264)
 (hc: ∀{pre post:List Value},OwnB W b (pre++(clv (jL w)++post)) 264→CLS f [.pointer (some ⟨b,pre.length,none⟩)].toArray W (fun e W'=>e=.returned (EV6 (u w))∧Mod b W W'∧OwnB W' b (pre++(clv (jL (g w))++post)) 264)):
 CLS f [.pointer (some ⟨b,0+72*j,none⟩)].toArray W (fun e W'=>e=.returned (EV6 (u w))∧Mod b W W'∧OwnB W' b (wcl (upW g l (j+1))++post) 264):=by
 rw[TJ h]at ho
 have k:=hc ho
 rw[Uv h]at k
 rw[Ui h]
 exact k
theorem M8{l:List WK}{j:Nat}{w:WK}(h:l[j]? =some w){b:Nat}{post:List Value}{W:World}(hw:Gt W)(hb:8≤b)(ho:OwnB W b (wcl (upW wDb l j)++post) 264):CLS 216 [.pointer (some ⟨b,0+72*j,none⟩)].toArray W (fun e W'=>e=.returned (EV6 (rDb w))∧Mod b W W'∧OwnB W' b (wcl (upW wDb l (j+1))++post) 264):=Sy h ho (fun {_ _} k=>mdbl w hw hb k)
theorem SJ{l:List WK}{j:Nat}{w:WK}(h:l[j]? =some w){b:Nat}{post:List Value}{W:World}(hz: ¬w.2.2.2.2=ze2)(hw:Gt W)(hb:8≤b)(ho:OwnB W b (wcl (upW wJn l j)++post) 264):CLS 218 [.pointer (some ⟨b,0+72*j,none⟩)].toArray W (fun e W'=>e=.returned (EV6 (rJn w))∧Mod b W W'∧OwnB W' b (wcl (upW wJn l (j+1))++post) 264):=Sy h ho (fun {_ _} k=>mjn w hz hw hb k)
theorem NA(W:List WK)(n b cap:Nat)(cs:List Value)(hWl:W.length≤1000)(hZ: ∀k,k<63→DGb k=true→∀w∈(SK W k).1.map wDb,¬w.2.2.2.2=ze2)(hB: ∀w',Gt w'→w'.rangeAt b 0 cs→CLS 213 [.slice (spt b) n cap].toArray w' (fun r w''=> ∃bW post capW,r=.returned (.slice (spt bW) W.length capW)∧Grow w' w''∧w'.heap.size≤bW∧OwnB w'' bW (wcl W++post) 264))(w:World)(hw:Gt w)(h:w.rangeAt b 0 cs):
 CLS 178 [.slice (spt b) n cap].toArray w (fun r w'=>r=.returned (ci (ca (SK W 63).2))∧Grow w w'):=by
 have hGF:BOk Gt (pl w):=gt_low.plain hw
 refine bV (G:=Gt) func178 rfl rfl (Hp (pl w) []) (bO (pl w) trivial ak) (au hGF)<|ae (E:=EE [213,216,218])<|Al 2 hGF zv233<|fun b2=>aa<|gz<|ae (E:=EE [213,216,218])<|Mv rfl<|?_
 refine cV rfl rfl ent213 rfl rfl (fun w' hw'=>(hB w' (hGF.g _ _ _ hw') (fu h (fun h=>h) w' hw')).mono fun e' w'' h'=> ?_)
 obtain ⟨bW,post,capW,rfl,hg,hbD,hoD⟩:=h'
 have hb3:8≤bW:=Nat.le_trans (Jz (hGF.g _ _ _ hw')) hbD
 refine ⟨_,_,rfl,au hGF,hw'.news ak hg [(50,bW,wcl W++post,264)] ?_ bN, ?_⟩
 ·intro n' b' c' t' hl
  rcases aC hl with ⟨_,e⟩|⟨_,hl⟩
  ·cases e;exact ⟨hbD,hoD⟩
  ·cases hl
 clear hw' hg hbD hoD
 refine eP 3 hGF zeroValue256 rfl rfl<|fun b3=>cM 3 hGF rfl rfl rfl sizeOf256 rfl (by first|decide|simp) rfl<|aa<|ae (E:=EE [213,216,218])<|Ca rfl (pW)<|Al 4 hGF zv233<|fun b4=>Sa 4 hGF rfl rfl rfl eQ<|aa<|ah<|i9<|ah<|ae (E:=EE [213,216,218])<|Ca rfl (wZ)<|aa<|aj<|?_
 refine ef (fun _=>pl w) (fun _ _=>pl w) (fun _=>hGF) (fun _ _=>hGF) (fun _=>rfl) (fun _ _=>rfl) rfl rfl ent240 oJ (fun x hx=>by obtain ⟨k,hk,rfl⟩:=List.mem_map.1 hx;rfl) rfl (fun k=>[(2,b2,(((fe 0++fe 0)++((fe 0++fe 0)++(fe 0++fe 0)))++((fe 0++fe 0)++((fe 0++fe 0)++(fe 0++fe 0)))).map U64,233),(3,b3,[.slice (spt bW) W.length capW],256),(4,b4,m4 ((SK W k).2),233),(50,bW,wcl ((SK W k).1)++post,264)]) (fun _ _ _=>False) trv (fun _ _ _ _=>trivial) ?_ ?_ (fun _ _ _ _ _ h=>h.elim)
 ·intro k v hx R hR
  obtain ⟨hk,rfl⟩:=wI hx
  refine bC (E:=EE [213,216,218])<|Asg rfl<|aa<|?_
  refine ⟨rfl,_,rfl, ?_⟩
  refine aj<|ae (E:=EE [213,216,218])<|La 4 rfl rfl eQ<|Ca rfl (iO _)<|ao 4 (hR (pl w) rfl hGF).2.1 rfl rfl rfl sizeOf233 sm sm (bk _) rfl<|aa<|ah<|ae (E:=EE [213,216,218])<|ch 3 rfl rfl rfl isAgg256 rfl rfl<|a5 rfl (fun _=>az underlying256 _ _ _ _) rfl rfl<|Mv rfl<|aa<|aj<|?_
  obtain ⟨F0,hF0⟩: ∃F0,F0=K12.mul (SK W k).2 (SK W k).2:=⟨_,rfl⟩
  refine cG (ι:={j:Nat // j≤W.length}) (fun y=>[(2,pnt b2),(3,pnt b3),(4,pnt b4),(5,.bool (DGb k)),(16,I ((W.length:Nat):Int)),(17,I (y.1:Int))]) (fun y=>[(2,b2,(((fe 0++fe 0)++((fe 0++fe 0)++(fe 0++fe 0)))++((fe 0++fe 0)++((fe 0++fe 0)++(fe 0++fe 0)))).map U64,233),(3,b3,[.slice (spt bW) W.length capW],256),(4,b4,m4 (e9 rDb ((SK W k).1.take y.1) F0),233),(50,bW,wcl (upW wDb (SK W k).1 y.1)++post,264)]) (fun y=>W.length-y.1) ⟨0,Nat.zero_le _⟩ (hR (pl w) rfl hGF).2.1 trv ⟨rfl,rfl,by rw[hF0];rfl,rfl,trivial⟩ ?_
  rintro ⟨j,hj⟩
  dsimp only
  refine ae (E:=EE [213,216,218])<|Bnr rfl rfl (fun _=>aF _ _ _)<|aa<|ah<|?_
  refine bZ rfl (fun hc=> ?_) (fun hc=> ?_)
  ·have hj2:j<W.length:=by simp at hc;omega
   obtain ⟨wj,hwj⟩: ∃wj,(SK W k).1[j]? =some wj:=⟨_,List.getElem?_eq_getElem (by rw[kj W k om];exact hj2)⟩
   refine ap<|ah<|aj<|ae (E:=EE [213,216,218])<|Mv rfl<|Asg rfl<|aa<|ow (E:=EE [213,216,218]) (fun X=>X=Hp (R.b (pl w)) [(4,b4,m4 (e9 rDb ((SK W k).1.take j) F0),233)]) (mkC [216]) (rkB [24]) [0,1,2,4,3,5,6] dC rfl kr kr kr<|gc rfl rfl<|ch 3 rfl rfl rfl isAgg256 rfl rfl<|aa<|gc rfl rfl<|Mv rfl<|aa<|gc rfl rfl<|i3 (s:=72) j rfl rfl underlying256 sizeOf264 om om rfl rfl<|aa<|mt (X:=Hp (R.b (pl w)) [(4,b4,m4 (e9 rDb ((SK W k).1.take j) F0),233)]) rfl (db (hR (pl w) rfl hGF).2.1.r trv) (fun _=>rfl)<|a9 4 rfl rfl isAgg233 sizeOf233 (lK _) rfl rfl<|aa<|kp rfl<|?_
   refine cV rfl rfl ent216 rfl rfl (fun w' hw'=>(M8 hwj ((hR (pl w) rfl hGF).2.1.g _ _ _ hw') hb3 (hw'.own 50 _ _ _ rfl).1).mono fun e' w'' h'=> ?_)
   obtain ⟨rfl,hm,ho⟩:=h'
   refine ⟨_,_,rfl,au (hR (pl w) rfl hGF).2.1,hw'.mod (hR (pl w) rfl hGF).2.1.r (n:=50) rfl hm ho, ?_⟩
   clear hw' hm ho
   refine aa ?_
   refine ⟨fun _ X hX _=>by subst hX;exact db (hR (pl w) rfl hGF).2.1.r trv, ?_⟩
   refine gc rfl rfl<|Ca rfl (v9 (rDb wj) (e9 rDb ((SK W k).1.take j) F0))<|aa<|kp rfl<|ao 4 (hR (pl w) rfl hGF).2.1 rfl rfl rfl sizeOf233 sm (lK _) (bk _) rfl<|aa<|?_
   refine ⟨fun h=>Bool.noConfusion h, ?_⟩
   refine ik<|bC (E:=EE [213,216,218])<|Bnr rfl rfl (fun _=>aA _ _ _ oi)<|Mv rfl<|aa<|?_
   repeat (refine a7 ?_)
   refine aR ?_
   have eF:K12.mul (lel (rDb wj)) (e9 rDb ((SK W k).1.take j) F0)=e9 rDb ((SK W k).1.take (j+1)) F0:=by rw[xB hwj,na]
   exact ⟨rfl,⟨j+1,om⟩,_,by show W.length-(j+1)<W.length-j;omega,rfl,trv,⟨rfl,rfl,by rw[←eF];rfl,rfl,trivial⟩⟩
  ·obtain rfl:j=W.length:=by simp at hc;omega
   refine be ?_
   rw[Kl wDb (by rw[kj W k om]),List.take_of_length_le (Nat.le_of_eq (by rw[kj W k om])),hF0]
   clear hF0
   refine ah<|ae (E:=EE [213,216,218])<|Mv rfl<|aY rfl (fun _=>aJ _) rfl rfl<|aa<|?_
   refine bZ rfl (fun hc=> ?_) (fun hc=> ?_)
   ·have hd:DGb k=false:=by simpa using hc
    refine be ?_
    repeat (first|refine a7 ?_|refine bY ?_)
    exact ⟨_,rfl,⟨rfl,rfl,by first|(rw[w8 W hk hd];rfl)|(rw[wg W hk hd];rfl),by first|(rw[w8 W hk hd];rfl)|(rw[wg W hk hd];rfl),trivial⟩⟩
   ·have hd:DGb k=true:=by simpa using hc
    refine ap<|ae (E:=EE [213,216,218])<|ch 3 rfl rfl rfl isAgg256 rfl rfl<|a5 rfl (fun _=>az underlying256 _ _ _ _) rfl rfl<|Mv rfl<|aa<|aj<|?_
    obtain ⟨F0,hF0⟩: ∃F0,F0=e9 rDb (SK W k).1 (K12.mul (SK W k).2 (SK W k).2):=⟨_,rfl⟩
    refine cG (ι:={j:Nat // j≤W.length}) (fun y=>[(2,pnt b2),(3,pnt b3),(4,pnt b4),(5,.bool (DGb k)),(30,I ((W.length:Nat):Int)),(31,I (y.1:Int))]) (fun y=>[(2,b2,(((fe 0++fe 0)++((fe 0++fe 0)++(fe 0++fe 0)))++((fe 0++fe 0)++((fe 0++fe 0)++(fe 0++fe 0)))).map U64,233),(3,b3,[.slice (spt bW) W.length capW],256),(4,b4,m4 (e9 rJn (((SK W k).1.map wDb).take y.1) F0),233),(50,bW,wcl (upW wJn ((SK W k).1.map wDb) y.1)++post,264)]) (fun y=>W.length-y.1) ⟨0,Nat.zero_le _⟩ (hR (pl w) rfl hGF).2.1 trv ⟨rfl,rfl,by rw[hF0];rfl,by rw[Uo];rfl,trivial⟩ ?_
    rintro ⟨j,hj⟩
    dsimp only
    refine ae (E:=EE [213,216,218])<|Bnr rfl rfl (fun _=>aF _ _ _)<|aa<|ah<|?_
    refine bZ rfl (fun hc=> ?_) (fun hc=> ?_)
    ·have hj2:j<W.length:=by simp at hc;omega
     obtain ⟨wj,hwj⟩: ∃wj,((SK W k).1.map wDb)[j]? =some wj:=⟨_,List.getElem?_eq_getElem (by rw[List.length_map,kj W k om];exact hj2)⟩
     refine ap<|ah<|aj<|ae (E:=EE [213,216,218])<|Mv rfl<|Asg rfl<|aa<|ow (E:=EE [213,216,218]) (fun X=>X=Hp (R.b (pl w)) [(4,b4,m4 (e9 rJn (((SK W k).1.map wDb).take j) F0),233)]) (mkC [218]) (rkB [38]) [0,1,2,4,3,5,6] dC rfl kr kr kr<|gc rfl rfl<|ch 3 rfl rfl rfl isAgg256 rfl rfl<|aa<|gc rfl rfl<|Mv rfl<|aa<|gc rfl rfl<|i3 (s:=72) j rfl rfl underlying256 sizeOf264 om om rfl rfl<|aa<|mt (X:=Hp (R.b (pl w)) [(4,b4,m4 (e9 rJn (((SK W k).1.map wDb).take j) F0),233)]) rfl (db (hR (pl w) rfl hGF).2.1.r trv) (fun _=>rfl)<|a9 4 rfl rfl isAgg233 sizeOf233 (lK _) rfl rfl<|aa<|kp rfl<|?_
     refine cV rfl rfl ent218 rfl rfl (fun w' hw'=>(SJ hwj (hZ k hk hd _ (List.mem_of_getElem? hwj)) ((hR (pl w) rfl hGF).2.1.g _ _ _ hw') hb3 (hw'.own 50 _ _ _ rfl).1).mono fun e' w'' h'=> ?_)
     obtain ⟨rfl,hm,ho⟩:=h'
     refine ⟨_,_,rfl,au (hR (pl w) rfl hGF).2.1,hw'.mod (hR (pl w) rfl hGF).2.1.r (n:=50) rfl hm ho, ?_⟩
     clear hw' hm ho
     refine aa ?_
     refine ⟨fun _ X hX _=>by subst hX;exact db (hR (pl w) rfl hGF).2.1.r trv, ?_⟩
     refine gc rfl rfl<|Ca rfl (v9 (rJn wj) (e9 rJn (((SK W k).1.map wDb).take j) F0))<|aa<|kp rfl<|ao 4 (hR (pl w) rfl hGF).2.1 rfl rfl rfl sizeOf233 sm (lK _) (bk _) rfl<|aa<|?_
     refine ⟨fun h=>Bool.noConfusion h, ?_⟩
     refine ik<|bC (E:=EE [213,216,218])<|Bnr rfl rfl (fun _=>aA _ _ _ oi)<|Mv rfl<|aa<|?_
     repeat (refine a7 ?_)
     refine aR ?_
     have eF:K12.mul (lel (rJn wj)) (e9 rJn (((SK W k).1.map wDb).take j) F0)=e9 rJn (((SK W k).1.map wDb).take (j+1)) F0:=by rw[xB hwj,na]
     exact ⟨rfl,⟨j+1,om⟩,_,by show W.length-(j+1)<W.length-j;omega,rfl,trv,⟨rfl,rfl,by rw[←eF];rfl,rfl,trivial⟩⟩
    ·obtain rfl:j=W.length:=by simp at hc;omega
     refine be ?_
     rw[Kl wJn (by rw[List.length_map,kj W k om]),List.take_of_length_le (Nat.le_of_eq (by rw[List.length_map,kj W k om])),hF0]
     clear hF0
     repeat (first|refine a7 ?_|refine bY ?_)
     exact ⟨_,rfl,⟨rfl,rfl,by first|(rw[w8 W hk hd];rfl)|(rw[wg W hk hd];rfl),by first|(rw[w8 W hk hd];rfl)|(rw[wg W hk hd];rfl),trivial⟩⟩
 ·intro D hD
  rw[l5]
  refine ae (E:=EE [213,216,218])<|La 4 rfl rfl eQ<|Ca rfl (ol _)<|Sa 2 hD rfl rfl rfl eQ<|aa<|am<|?_
  repeat (first|refine bq ?_|refine bt ?_|refine dO ?_)
  exact cP (.inl rfl) ak (ay 2 rfl rfl rfl isAgg233 sizeOf233 sm (fun w hw=>⟨rfl,ac hw⟩))
theorem Pd(W:List WK)(n b cap:Nat)(cs:List Value)(hW0: ∀k,k≤63→(SK W k).1=[])(hB: ∀w',Gt w'→w'.rangeAt b 0 cs→CLS 213 [.slice (spt b) n cap].toArray w' (fun r w''=>r=.returned (.slice none 0 0)∧Grow w' w''))(w:World)(hw:Gt w)(h:w.rangeAt b 0 cs):
 CLS 178 [.slice (spt b) n cap].toArray w (fun r w'=>r=.returned (ci (ca (SK W 63).2))∧Grow w w'):=by
 have hGF:BOk Gt (pl w):=gt_low.plain hw
 refine bV (G:=Gt) func178 rfl rfl (Hp (pl w) []) (bO (pl w) trivial ak) (au hGF)<|ae (E:=EE [213,216,218])<|Al 2 hGF zv233<|fun b2=>aa<|gz<|ae (E:=EE [213,216,218])<|Mv rfl<|?_
 refine cV rfl rfl ent213 rfl rfl (fun w' hw'=>(hB w' (hGF.g _ _ _ hw') (fu h (fun h=>h) w' hw')).mono fun e' w'' h'=> ?_)
 obtain ⟨rfl,hg⟩:=h'
 refine ⟨_,_,rfl,au hGF,hw'.grow ak hg, ?_⟩
 clear hw' hg
 refine eP 3 hGF zeroValue256 rfl rfl<|fun b3=>cM 3 hGF rfl rfl rfl sizeOf256 rfl (by first|decide|simp) rfl<|aa<|ae (E:=EE [213,216,218])<|Ca rfl (pW)<|Al 4 hGF zv233<|fun b4=>Sa 4 hGF rfl rfl rfl eQ<|aa<|ah<|i9<|ah<|ae (E:=EE [213,216,218])<|Ca rfl (wZ)<|aa<|aj<|?_
 refine ef (fun _=>pl w) (fun _ _=>pl w) (fun _=>hGF) (fun _ _=>hGF) (fun _=>rfl) (fun _ _=>rfl) rfl rfl ent240 oJ (fun x hx=>by obtain ⟨k,hk,rfl⟩:=List.mem_map.1 hx;rfl) rfl (fun k=>[(2,b2,(((fe 0++fe 0)++((fe 0++fe 0)++(fe 0++fe 0)))++((fe 0++fe 0)++((fe 0++fe 0)++(fe 0++fe 0)))).map U64,233),(3,b3,[.slice none 0 0],256),(4,b4,m4 ((SK W k).2),233)]) (fun _ _ _=>False) trv (fun _ _ _ _=>trivial) ?_ ?_ (fun _ _ _ _ _ h=>h.elim)
 ·intro k v hx R hR
  obtain ⟨hk,rfl⟩:=wI hx
  refine bC (E:=EE [213,216,218])<|Asg rfl<|aa<|?_
  refine ⟨rfl,_,rfl, ?_⟩
  refine aj<|ae (E:=EE [213,216,218])<|La 4 rfl rfl eQ<|Ca rfl (iO _)<|ao 4 (hR (pl w) rfl hGF).2.1 rfl rfl rfl sizeOf233 sm sm (bk _) rfl<|aa<|ah<|ae (E:=EE [213,216,218])<|ch 3 rfl rfl rfl isAgg256 rfl rfl<|a5 rfl (fun _=>az underlying256 _ _ _ _) rfl rfl<|Mv rfl<|aa<|aj<|?_
  obtain ⟨F0,hF0⟩: ∃F0,F0=K12.mul (SK W k).2 (SK W k).2:=⟨_,rfl⟩
  refine cG (ι:={j:Nat // j≤0}) (fun y=>[(2,pnt b2),(3,pnt b3),(4,pnt b4),(5,.bool (DGb k)),(16,I ((0:Nat):Int)),(17,I (y.1:Int))]) (fun y=>[(2,b2,(((fe 0++fe 0)++((fe 0++fe 0)++(fe 0++fe 0)))++((fe 0++fe 0)++((fe 0++fe 0)++(fe 0++fe 0)))).map U64,233),(3,b3,[.slice none 0 0],256),(4,b4,m4 (e9 rDb ((SK W k).1.take y.1) F0),233)]) (fun y=>0-y.1) ⟨0,Nat.zero_le _⟩ (hR (pl w) rfl hGF).2.1 trv ⟨rfl,rfl,by rw[hF0];rfl,trivial⟩ ?_
  rintro ⟨j,hj⟩
  dsimp only
  obtain rfl:j=0:=om
  refine ae (E:=EE [213,216,218])<|Bnb false rfl rfl (fun _=>aF _ _ _) (rfl)<|aa<|ah<|aq rfl<|be<|?_
  rw[show (SK W k).1.take 0=(SK W k).1 from by rw[hW0 k om];rfl,hF0]
  clear hF0
  refine ah<|ae (E:=EE [213,216,218])<|Mv rfl<|aY rfl (fun _=>aJ _) rfl rfl<|aa<|?_
  refine bZ rfl (fun hc=> ?_) (fun hc=> ?_)
  ·have hd:DGb k=false:=by simpa using hc
   refine be ?_
   repeat (first|refine a7 ?_|refine bY ?_)
   exact ⟨_,rfl,⟨rfl,rfl,by first|(rw[w8 W hk hd];rfl)|(rw[wg W hk hd];rfl),trivial⟩⟩
  ·have hd:DGb k=true:=by simpa using hc
   refine ap<|ae (E:=EE [213,216,218])<|ch 3 rfl rfl rfl isAgg256 rfl rfl<|a5 rfl (fun _=>az underlying256 _ _ _ _) rfl rfl<|Mv rfl<|aa<|aj<|?_
   obtain ⟨F0,hF0⟩: ∃F0,F0=e9 rDb (SK W k).1 (K12.mul (SK W k).2 (SK W k).2):=⟨_,rfl⟩
   refine cG (ι:={j:Nat // j≤0}) (fun y=>[(2,pnt b2),(3,pnt b3),(4,pnt b4),(5,.bool (DGb k)),(30,I ((0:Nat):Int)),(31,I (y.1:Int))]) (fun y=>[(2,b2,(((fe 0++fe 0)++((fe 0++fe 0)++(fe 0++fe 0)))++((fe 0++fe 0)++((fe 0++fe 0)++(fe 0++fe 0)))).map U64,233),(3,b3,[.slice none 0 0],256),(4,b4,m4 (e9 rJn (((SK W k).1.map wDb).take y.1) F0),233)]) (fun y=>0-y.1) ⟨0,Nat.zero_le _⟩ (hR (pl w) rfl hGF).2.1 trv ⟨rfl,rfl,by rw[hF0];rfl,trivial⟩ ?_
   rintro ⟨j,hj⟩
   dsimp only
   obtain rfl:j=0:=om
   refine ae (E:=EE [213,216,218])<|Bnb false rfl rfl (fun _=>aF _ _ _) (rfl)<|aa<|ah<|aq rfl<|be<|?_
   rw[show ((SK W k).1.map wDb).take 0=((SK W k).1.map wDb)from by rw[hW0 k om];rfl,hF0]
   clear hF0
   repeat (first|refine a7 ?_|refine bY ?_)
   exact ⟨_,rfl,⟨rfl,rfl,by first|(rw[w8 W hk hd];rfl)|(rw[wg W hk hd];rfl),trivial⟩⟩
 ·intro D hD
  rw[l5]
  refine ae (E:=EE [213,216,218])<|La 4 rfl rfl eQ<|Ca rfl (ol _)<|Sa 2 hD rfl rfl rfl eQ<|aa<|am<|?_
  repeat (first|refine bq ?_|refine bt ?_|refine dO ?_)
  exact cP (.inl rfl) ak (ay 2 rfl rfl rfl isAgg233 sizeOf233 sm (fun w hw=>⟨rfl,ac hw⟩))
end Q6
end
section
open Go.RowKit
attribute [local simp] aW bd aU aP aD bf aL aK aB PLl cm cq N1l cr cp cu a8 bg aQ a6 bc J1.bj J2.bj Q6.eI Q6.fy
namespace Q6
def LPv(f:Nat→J1.GP×J2.GP)(n:Nat):W12:=ca (SK (WSf f n) 63).2
theorem Ua(W:List WK):SK W 63=rdK L63 (W,K12.one):=by rw[SK,List.take_of_length_le (by rw[mF];exact Nat.le_refl _),KI]
def WGo(w:WK):Prop:=w=wkB w.1 w.2.1∧E2w.on w.2.1∧E2w.times (some w.2.1) ORD=none
theorem vU{f:Nat→J1.GP×J2.GP}: ∀{n:Nat},(∀i,i<n→E2w.times (f i).2.P ORD=none)→∀w∈WSf f n,WGo w
 |0,_,w,hw=>by cases hw
 |n+1,h,w,hw=>by
  have ih:=vU (f:=f) (n:=n) fun i hi=>h i om
  by_cases h1:(f n).1.P=none
  ·rw[vk h1]at hw;exact ih w hw
  ·by_cases h2:(f n).2.P=none
   ·rw[uK h1 h2]at hw;exact ih w hw
   ·rw[Gs h1 h2,List.mem_append,List.mem_singleton]at hw
    rcases hw with hw|rfl
    ·exact ih w hw
    ·obtain ⟨q,hq⟩:=mi h2
     have e:(J2.PX (f n).2.P,J2.PY (f n).2.P)=q:=by rw[hq];rfl
     have ho:=(f n).2.on
     have hr:=h n om
     rw[hq]at ho hr
     refine ⟨rfl, ?_, ?_⟩
     ·show E2w.on (J2.PX (f n).2.P,J2.PY (f n).2.P);rw[e];exact ho
     ·show E2w.times (some (J2.PX (f n).2.P,J2.PY (f n).2.P)) ORD=none;rw[e];exact hr
theorem Ti{W:List WK}(h: ∀w∈W,WGo w):RdOk [] (W,K12.one):=⟨fun w hw=>by
 obtain ⟨e,h1,h2⟩:=h w hw
 refine ⟨⟨h1,h2, ?_⟩,rfl⟩
 show E2w.jr w.2.2 (E2w.times (some w.2.1) 1)
 rw[tm1,e]
 exact mV w.2.1,by
 show Up6 K12.one (gA (W.map fun _=>K12.one))
 rw[oW];exact Up6.refl _⟩
theorem SK_z{W:List WK}(h: ∀w∈W,WGo w)(k:Nat)(hk:k<63)(_:DGb k=true): ∀w∈(SK W k).1.map wDb,¬w.2.2.2.2=ze2:=fun w hw=>by
 obtain ⟨v,hv,rfl⟩:=List.mem_map.1 hw
 have r:=(Ti h).all k (D63.take k) (by rw[List.length_take,mF];omega) om
 have hl:=Rc hk
 have h1:=((r.w v hv).1.dbl (sn k om).1 om).1
 obtain ⟨a,ha⟩:=mi (uD h1.on h1.qr (m:=2*bU (D63.take k) 1) (by have:=(sn k om).1;omega) om)
 have hj:=h1.jr
 rw[ha]at hj
 exact hj.1
theorem Qe{W:List WK}(h:W=[])(k:Nat)(hk:k≤63):(SK W k).1=[]:=List.length_eq_zero_iff.1 (by rw[kj W k hk,h];rfl)
theorem Nu(n:Nat)(f:Nat→J1.GP×J2.GP)(b cap:Nat)(hn:n≤1000)(hf: ∀i,i<n→E2w.times (f i).2.P ORD=none)(w:World)(hw:Gt w)(h:w.rangeAt b 0 ((RW 54 (fun i=>PRv (f i)) n).map U64)):CLS 178 [.slice (spt b) n cap].toArray w (fun r w'=>r=.returned (ci (LPv f n))∧Grow w w'):=by
 have hG:=vU hf
 have hl:=Nat.le_trans (tF f n) hn
 have hb:=fun w' hw' hr=>I0 n f b cap hn w' hw' hr
 rw[LPv]
 revert h hb
 generalize (RW 54 (fun i=>PRv (f i)) n).map U64=cs
 intro h hb
 by_cases h0:WSf f n=[]
 ·refine Pd (WSf f n) n b cap cs (Qe h0) (fun w' hw' hr=>(hb w' hw' hr).mono fun r w'' h=> ?_) w hw h
  rcases h with ⟨_,_,_,_,_,_,_,_,e⟩|⟨_,h⟩
  ·exact absurd h0 e
  ·exact h
 ·refine NA (WSf f n) n b cap cs hl (SK_z hG) (fun w' hw' hr=>(hb w' hw' hr).mono fun r w'' h=> ?_) w hw h
  rcases h with ⟨bW,cW,capW,h1,h2,h3,h4,h5,_⟩|⟨e,_⟩
  ·refine ⟨bW,cW.drop (wcl (WSf f n)).length,capW,h1,h2,h3, ?_⟩
   have e:wcl (WSf f n)++cW.drop (wcl (WSf f n)).length=cW:=by
    conv=>lhs;arg 1;rw[←h5]
    exact List.take_append_drop _ _
   rw[e];exact h4
  ·exact absurd e h0
def PRD(f:Nat→J1.GP×J2.GP):Nat→W12
 |0=>K12.one
 |i+1=>K12.mul (PRD f i) (ca (MLv L63 (f i).1.P (f i).2.P))
theorem uw: ∀l m:List W12,gA (l++m)=K12.mul (gA l) (gA m)
 |[],m=>(K12.one_mul _).symm
 |x::l,m=>by rw[List.cons_append,gA,uw l m,gA,K12.mul_assoc]
theorem KV(f:Nat→J1.GP×J2.GP): ∀n,ca (gA ((WSf f n).map fun w=>MLv L63 (some w.1) (some w.2.1)))=PRD f n
 |0=>gP
 |n+1=>by
  have ih:=KV f n
  rw[PRD]
  by_cases h1:(f n).1.P=none
  ·rw[vk h1,ih,h1,B1,gP,K12.mul_one]
  ·by_cases h2:(f n).2.P=none
   ·rw[uK h1 h2,ih,h2,Mb,gP,K12.mul_one]
   ·have e1:some (J1.PX (f n).1.P,J1.PY (f n).1.P)=(f n).1.P:=(J1.J5 h1).symm
    have e2:some (J2.PX (f n).2.P,J2.PY (f n).2.P)=(f n).2.P:=by
     obtain ⟨q,hq⟩:=mi h2
     rw[hq];rfl
    rw[Gs h1 h2,List.map_append,uw,iW,ih]
    show K12.mul (PRD f n) (ca (K12.mul (MLv L63 (some (J1.PX (f n).1.P,J1.PY (f n).1.P)) (some (J2.PX (f n).2.P,J2.PY (f n).2.P))) K12.one))=_
    rw[e1,e2,K12.mul_one]
theorem Np{f:Nat→J1.GP×J2.GP}{n:Nat}(hf: ∀i,i<n→E2w.times (f i).2.P ORD=none):Up6 (LPv f n) (PRD f n):=by
 have k:=IS (WSf f n) (vU hf)
 rw[KV]at k
 rw[LPv,Ua]
 exact k
theorem tH:Two prog 182 ⟨ "P",54,0,false, "", "",0⟩ ⟨ "Q",94,18,false, "", "",144⟩ 18 36 (List.replicate 18 (0#64)) (List.replicate 36 (0#64)):=⟨underlying182,rfl,rfl,sizeOf54,sizeOf94,fun w=>(zeroValue182 w).trans rr,sm,sm⟩
end Q6
end
section
open Go.RowKit
theorem ent290:ai prog 290:=fun _ _=>kr
namespace Q6
attribute [local simp] aW bd aU aP aD bf aL aK aB PLl cm cq N1l cr cp cu a8 bg aQ a6 bc eI
attribute [local simp] pt dp
theorem zv307(w:World):(zeroValue 307).run prog w=.ok (aT (FM (FF fun _=>ze2) 6)) w:=by
 rw[ub];exact (zeroValue307 w).trans rr
abbrev TV6(f:Nat→W2):Value:=aT (FM (FF f) 6)
theorem NG(f z:Nat→L6): ∀i,i<6→wT f [0,1,2,3,4,5] z i=f i:=fun i hi=>ox _ _ _ _ (.inl (by
 match i,hi with
 |0,_=>decide
 |1,_=>decide
 |2,_=>decide
 |3,_=>decide
 |4,_=>decide
 |5,_=>decide))
theorem Hv(x:W12):PUR 291 [ci x] (TV6 (p12 x)):=by
 intro w hw
 refine Hf func291 rfl hw<|fun hGF=>Xp<|Bx 1 hGF rfl<|fun b1=>Al 2 hGF zv307<|fun b2=>aa<|Xp<|Fa 0 rfl underlying233 rfl sizeOf231<|Fa 0 rfl underlying231 rfl sizeOf92<|av 1 _ rfl rfl isAgg92 sizeOf92 sm (DY dR) rfl rfl<|Fa 36 rfl underlying233 rfl sizeOf231<|Fa 36 rfl underlying231 rfl sizeOf92<|av 1 _ rfl rfl isAgg92 sizeOf92 sm (vO (m:=36) (o:=0) sm rfl dR) rfl rfl<|Fa 0 rfl underlying233 rfl sizeOf231<|Fa 12 rfl underlying231 rfl sizeOf92<|av 1 _ rfl rfl isAgg92 sizeOf92 sm (DY (kQ sm)) rfl rfl<|Fa 36 rfl underlying233 rfl sizeOf231<|Fa 48 rfl underlying231 rfl sizeOf92<|av 1 _ rfl rfl isAgg92 sizeOf92 sm (vO (m:=36) (o:=12) sm rfl (kQ (m:=12) sm)) rfl rfl<|Fa 0 rfl underlying233 rfl sizeOf231<|Fa 24 rfl underlying231 rfl sizeOf92<|av 1 _ rfl rfl isAgg92 sizeOf92 sm (DY (gq (m:=12) (n:=12) sm sm rfl)) rfl rfl<|Fa 36 rfl underlying233 rfl sizeOf231<|Fa 60 rfl underlying231 rfl sizeOf92<|av 1 _ rfl rfl isAgg92 sizeOf92 sm (vO (m:=36) (o:=24) sm rfl (gq (m:=12) (n:=12) sm sm rfl)) rfl rfl<|pi (s:=12) (FF (p12 x)) (FF (p12 x)) [0,1,2,3,4,5] rfl rfl rfl (fun i _=>aQ _) underlying307 sizeOf92 zv307 (NG _ _) rfl rfl<|Sa 2 hGF rfl rfl rfl Kt<|aa<|am<|Rr<|?_
 exact ay 2 rfl rfl rfl isAgg307 sizeOf307 sm (fun w hw=>⟨rfl,ac hw⟩)
theorem Tt(f:Nat→W2):PUR 275 [TV6 f] (ci (tq f)):=by
 intro w hw
 refine Hf func275 rfl hw<|fun hGF=>Xp<|Bx 1 hGF rfl<|fun b1=>Al 2 hGF zv233<|fun b2=>aa<|Xp<|eK (0) (12*(0)) rfl rfl underlying307 sizeOf92 om om om rfl rfl<|av 1 ((fe (f 0).1++fe (f 0).2).map U64) rfl rfl isAgg92 sizeOf92 sm (fV _ (f 0) 6 (0) _ om rfl (rfl)) rfl rfl<|eK (2) (12*(2)) rfl rfl underlying307 sizeOf92 om om om rfl rfl<|av 1 ((fe (f 2).1++fe (f 2).2).map U64) rfl rfl isAgg92 sizeOf92 sm (fV _ (f 2) 6 (2) _ om rfl (rfl)) rfl rfl<|eK (4) (12*(4)) rfl rfl underlying307 sizeOf92 om om om rfl rfl<|av 1 ((fe (f 4).1++fe (f 4).2).map U64) rfl rfl isAgg92 sizeOf92 sm (fV _ (f 4) 6 (4) _ om rfl (rfl)) rfl rfl<|eo kt rfl rfl rfl sm sm sm rfl rfl<|eK (1) (12*(1)) rfl rfl underlying307 sizeOf92 om om om rfl rfl<|av 1 ((fe (f 1).1++fe (f 1).2).map U64) rfl rfl isAgg92 sizeOf92 sm (fV _ (f 1) 6 (1) _ om rfl (rfl)) rfl rfl<|eK (3) (12*(3)) rfl rfl underlying307 sizeOf92 om om om rfl rfl<|av 1 ((fe (f 3).1++fe (f 3).2).map U64) rfl rfl isAgg92 sizeOf92 sm (fV _ (f 3) 6 (3) _ om rfl (rfl)) rfl rfl<|eK (5) (12*(5)) rfl rfl underlying307 sizeOf92 om om om rfl rfl<|av 1 ((fe (f 5).1++fe (f 5).2).map U64) rfl rfl isAgg92 sizeOf92 sm (fV _ (f 5) 6 (5) _ om rfl (rfl)) rfl rfl<|eo kt rfl rfl rfl sm sm sm rfl rfl<|cC sJ rfl rfl sm sm rfl rfl<|Sa 2 hGF rfl rfl rfl eQ<|aa<|am<|Rr<|?_
 exact ay 2 rfl rfl rfl isAgg233 sizeOf233 sm (fun w hw=>⟨rfl,ac hw⟩)
theorem qC(x:W12)(w:World)(hw:Gt w):CLS 274 [ci x].toArray w (fun e w'=> ∃b1,e=.returned (.func (.func 290) #[] #[pnt b1])∧Grow w w'∧w.heap.size≤b1∧OwnB w' b1 ((((fe (x.1.1).1++fe (x.1.1).2)++((fe (x.1.2.1).1++fe (x.1.2.1).2)++(fe (x.1.2.2).1++fe (x.1.2.2).2)))++((fe (x.2.1).1++fe (x.2.1).2)++((fe (x.2.2.1).1++fe (x.2.2.1).2)++(fe (x.2.2.2).1++fe (x.2.2.2).2)))).map U64) 233):=by
 refine Hf func274 rfl hw<|fun hGF=>Xp<|Bx 1 hGF rfl<|fun b1=>Asg rfl<|aa<|Xp<|eV rfl rfl rfl rfl<|Asg rfl<|aa<|am<|Rr<|?_
 exact aE rfl rfl (fun w hw=>⟨b1,rfl,ac hw,(hw.own 1 b1 _ _ rfl).2.elim id False.elim,(hw.own 1 b1 _ _ rfl).1⟩)
def BE(x:W12):List (List Value):=(List.range 6).map fun (k:Nat)=>[I (k:Int),EV2 (p12 x k)]
theorem qx(x:W12):(BE x).length=6:=by rw[BE,List.length_map,List.length_range]
theorem uT(x:W12)(k:Nat)(h:k<6):(BE x)[k]? =some [I (k:Int),EV2 (p12 x k)]:=by
 rw[BE,List.getElem?_map,List.getElem?_range h];rfl
theorem JZ(x:W12)(k:Nat)(v:List Value)(h:(BE x)[k]? =some v):k<6∧v=[I (k:Int),EV2 (p12 x k)]:=by
 have hk:k<6:=by
  rcases Nat.lt_or_ge k 6 with hk|hk
  ·exact hk
  ·rw[List.getElem?_eq_none (by rw[qx];exact hk)]at h;cases h
 exact ⟨hk,(Option.some.inj ((uT x k hk).symm.trans h)).symm⟩
def Mh(bb:Nat)(x:W12):Cls:=fun w=>w.rangeAt bb 0 ((((fe (x.1.1).1++fe (x.1.1).2)++((fe (x.1.2.1).1++fe (x.1.2.1).2)++(fe (x.1.2.2).1++fe (x.1.2.2).2)))++((fe (x.2.1).1++fe (x.2.1).2)++((fe (x.2.2.1).1++fe (x.2.2.1).2)++(fe (x.2.2.2).1++fe (x.2.2.2).2)))).map U64)
theorem OF(bb:Nat)(x:W12):eG prog Gt 290 [pnt bb] (BE x) (Mh bb x):=by
 intro l J Jx hJ hJx hRd hGx hY w hj
 have okJ: ∀k,BOk Gt (Bi w (fun Y=>J Y k)):=fun k=>⟨fun _ _ _ h=>(hRd _ _ _ h.rid).1,hJ k⟩
 have okX: ∀k,BOk Gt (Bi w (fun Y=>Jx Y k)):=fun k=>⟨fun _ _ _ h=>hGx _ _ _ h.rid,hJx k⟩
 have c1: ∀k L w',Hp (Bi w (fun Y=>J Y k)) L w'→Mh bb x w':=fun k L w' h=>(hRd _ _ _ h.rid).2
 refine cb (G:=Gt) func290 rfl rfl (Hp (Bi w (fun Y=>J Y 0)) []) (bO (Bi w _) hj (hJ 0)) (au (okJ 0))<|Xp<|dv rfl isAgg233 sizeOf233 sm (fun w h=>c1 _ _ w h) rfl rfl<|Ca rfl (Hv _)<|Mv rfl<|aa<|aj<|fB (ι:={i:Nat // i≤6}) (fun y=>[(0,.func (.yield l) #[] #[]),(1,pnt bb),(6,TV6 (p12 x)),(7,I (y.1:Int))]) (fun y=>Bi w (fun Y=>J Y y.1)) (fun y=>[]) (fun y=>6-y.1) ⟨0,Nat.zero_le _⟩ (fun _=>okJ _) rfl trv trivial<|?_
 rintro ⟨i,hi⟩
 dsimp only
 refine Xp<|Bnr rfl rfl (fun _=>aF _ _ _)<|aa<|ah<|?_
 refine bZ rfl (fun hc=> ?_) (fun hc=> ?_)
 ·have hi2:i<6:=by simp at hc;omega
  refine ap<|ah<|aj<|Xp<|Mv rfl<|z9 (FF (p12 x)) (i) rfl rfl underlying307 sizeOf92 isAgg92 om om (aQ _) rfl rfl<|Al 4 (okJ _) zv92<|fun b4=>Asg rfl<|Sa 4 (okJ _) rfl rfl rfl aH<|aa<|Xp<|Mv rfl<|Mv rfl<|La 4 rfl rfl aH<|?_
  refine cX (hY.b (k:=i) (uT x i om) w) (okJ _) (okX _) rfl rfl rfl rfl rfl ?_ ?_
  ·refine aY rfl (fun _=>aJ _) rfl rfl<|aa<|aq rfl<|ap<|Xq<|Bnr rfl rfl (fun _=>aA _ _ _ oi)<|Mv rfl<|aa<|?_
   repeat (refine a7 ?_)
   exact aR<|⟨rfl,⟨i+1,om⟩,_,by show 6-(i+1)<6-i;omega,rfl,trv,trivial⟩
  ·refine aY rfl (fun _=>aJ _) rfl rfl<|aa<|aV rfl<|am<|Rr<|?_
   repeat (first|refine cZ ?_|refine bY ?_|refine cU rfl ?_|refine bq ?_|refine bt ?_)
   exact cR rfl (fun w hw=>⟨⟨_,rfl⟩,.inr ⟨_,bD (hJx _) hw.rid⟩⟩)
 ·obtain rfl:i=6:=by simp at hc;omega
  refine be ?_
  repeat (first|refine cZ ?_|refine bY ?_|refine cU rfl ?_|refine bq ?_|refine bt ?_)
  refine cn rfl (fun w hw=>⟨⟨_,rfl⟩,.inl ?_⟩)
  have:=bD (hJ _) hw.rid
  rw[qx]
  exact this
end Q6
end
section
def SXB:L8:=[25#8,4#8,211#8,191#8,2#8,187#8,6#8,103#8,194#8,49#8,190#8,180#8,32#8,44#8,13#8,31#8,15#8,214#8,3#8,253#8,60#8,189#8,95#8,79#8,123#8,36#8,67#8,215#8,132#8,186#8,185#8,196#8,246#8,126#8,165#8,61#8,99#8,231#8,129#8,61#8,141#8,7#8,117#8,237#8,146#8,35#8,95#8,184#8]
def SRn:Nat:=3850754370037169011952147076051364057158807420970682438676050522613628423219637725072182697113062777891589506424760
theorem JE:SXB.length=48:=rfl
theorem LW:BN SXB 48=SRn:=by decide+kernel
theorem Rz:SRn<PP:=by decide+kernel
theorem O8:FV SXB=zp SRn:=by rw[FV,if_pos ⟨JE,by rw[LW];exact Rz⟩,LW]
def SR:Zp:=zp SRn
theorem CZ:CNn+SRn=PP:=by decide+kernel
theorem SR_a: -(zp CNn)=SR:=sB (by rw[SR,←fL,CZ,nA])
theorem SR_b: -SR=zp CNn:=sB (by rw[SR,←fL,Nat.add_comm,CZ,nA])
theorem TZ:((SR,-SR):W2)=GA:=by rw[wm,SR_a,SR_b]
theorem WL(n:Int):(n.tmod 12+12).tmod 12=(((n % 12).toNat:Nat):Int):=by
 have h:n.tmod 12=n % 12∨n.tmod 12=n % 12-12:=by
  rw[Int.tmod_eq_emod]
  split
  ·left;omega
  ·right;rfl
 have e:(n.tmod 12+12).tmod 12=(n.tmod 12+12) % 12:=by rw[Int.tmod_eq_emod_of_nonneg om]
 rw[e]
 omega
theorem Cr(n:Int):inI (n.tmod 12+12):=by
 have h:n.tmod 12=n % 12∨n.tmod 12=n % 12-12:=by
  rw[Int.tmod_eq_emod]
  split
  ·left;omega
  ·right;rfl
 unfold inI;omega
end
section
open Go.RowKit
namespace Q6
attribute [local simp] aW bd aU aP aD bf aL aK aB PLl cm cq N1l cr cp cu a8 bg aQ a6 bc eI
attribute [local simp] pt dp
theorem vu(e:Option Addr)(cap:Nat)(w:World)(hw:Gt w)(hby:BytesAt w e SXB):
 CLS 90 [.slice e SXB.length cap].toArray w (fun r w'=>r=.returned (.tuple #[EV SR,.bool (FO SXB)])∧Grow w w'):=by
 have h:=dM e cap SXB w hw hby
 rw[O8]at h
 exact h
theorem Wc{m:Nat}(h:m % 2=1)(y:W2)(k:Nat):frq y m k=ml2 (cj2 y) (pw2 (GV m) k):=by rw[frq,cjn,if_pos h]
theorem VP{m:Nat}(h: ¬m % 2=1)(y:W2)(k:Nat):frq y m k=ml2 y (pw2 (GV m) k):=by rw[frq,cjn,if_neg h]
theorem GV_s(i:Nat):GV (i+1)=ml2 (cj2 (GV i)) ((SR,-SR):W2):=by rw[TZ];rfl
theorem GG(n:Nat)(hn:n≤1000):PUR 273 [I (n:Int)] (EV2 (GV n)):=by
 intro w hw
 refine Hf func273 rfl hw<|fun hGF=>ae (E:=EE [1000022])<|Al 2 hGF zv92<|fun b2=>aa<|ae (E:=EE [1000022])<|iw 8 SXB hGF rfl rfl rfl dc dc underlying22 sizeOf5 zeroValue5 rfl rfl<|fun b8=>nc 8 rfl hGF rfl rfl underlying22 underlying5 rfl rfl<|Cc rfl ent90 (fun w' hC hG=>vu _ _ w' hG (BytesAt.range (hC.own 8 b8 _ _ rfl).1.range))<|Mv rfl<|Ext rfl rfl<|Ext rfl rfl<|Al 3 hGF zv52<|fun b3=>Sa 3 hGF rfl rfl rfl bv<|Asg rfl<|aa<|eT (E:=EE [1000022,2999999]) [0,1,2,3] [⟨4,5,92,(fe 0++fe 0).map U64⟩] [5] dC rfl kr kr kr kr kr kr dc (by intro x hx;simp only[List.mem_cons,List.not_mem_nil,or_false]at hx;subst hx;exact bS rfl zv92 rfl)<|La 3 rfl rfl bv<|La 3 rfl rfl bv<|Ca rfl (dI _)<|cC fo rfl rfl sm sm rfl rfl<|aa<|?_
 refine ⟨_,_,rfl,hGF,by intro x hx;simp only[List.mem_cons,List.not_mem_nil,or_false]at hx;subst hx;rfl,by intro x hx;simp only[List.mem_cons,List.not_mem_nil,or_false]at hx;subst hx;rfl,fun adr=> ?_⟩
 refine Sa 5 hGF rfl rfl rfl aH<|aa<|ae (E:=EE [1000022])<|Ca rfl (q8)<|Al 6 hGF zv92<|fun b6=>Sa 6 hGF rfl rfl rfl aH<|aa<|ah<|ae (E:=EE [1000022])<|Mv rfl<|Mv rfl<|aa<|aj<|cG (ι:={i:Nat // i≤n}) (fun y=>[(0,I (n:Int)),(2,pnt b2),(3,pnt b3),(5,.pointer (some ⟨(adr 5),0,none⟩)),(6,pnt b6),(18,I (n:Int)),(19,I (y.1:Int))]) (fun y=>[(2,b2,(fe 0++fe 0).map U64,92),(3,b3,(fe SR).map U64,52),(5,adr 5,(fe SR++fe (-SR)).map U64,92),(6,b6,(fe (GV y.1).1++fe (GV y.1).2).map U64,92)]) (fun y=>n-y.1) ⟨0,Nat.zero_le _⟩ hGF trv trv<|?_
 rintro ⟨i,hi⟩
 dsimp only
 refine ae (E:=EE [1000022])<|Bnr rfl rfl (fun _=>aF _ _ _)<|aa<|ah<|?_
 refine bZ rfl (fun hc=> ?_) (fun hc=> ?_)
 ·simp only[decide_eq_true_eq]at hc
  refine ap<|ah<|aj<|Xe [1000022]<|La 6 rfl rfl aH<|Ca rfl (mM _)<|La 5 rfl rfl aH<|Ca rfl (dh (cj2 (GV i)) ((SR,-SR):W2))<|Sa 6 hGF rfl rfl rfl aH<|aa<|bC (E:=EE [1000022])<|Bnr rfl rfl (fun _=>aA _ _ _ oi)<|Mv rfl<|aa<|?_
  repeat (refine a7 ?_)
  exact aR<|⟨rfl,⟨i+1,om⟩,_,by show n-(i+1)<n-i;omega,rfl,trv,⟨rfl,rfl,rfl,by rw[GV_s i];rfl,trivial⟩⟩
 ·obtain rfl:n=i:=by simp at hc;omega
  refine be<|ae (E:=EE [1000022])<|La 6 rfl rfl aH<|Sa 2 hGF rfl rfl rfl aH<|aa<|am<|Rr<|?_
  exact ay 2 rfl rfl rfl isAgg92 sizeOf92 sm (fun w hw=>⟨rfl,ac hw⟩)
theorem zi(x:W12)(n:Int):PUR 235 [ci x,I n] (ci (jF x (n % 12).toNat)):=by
 intro w hw
 have hGF:BOk Gt (pl w):=gt_low.plain hw
 obtain ⟨m,hm⟩: ∃m:Nat,(n % 12).toNat=m:=⟨_,rfl⟩
 have hm6:m<12:=om
 rw[hm,xY]
 refine bV (G:=Gt) func235 rfl rfl (Hp (pl w) []) (bO (pl w) trivial ak) (au hGF)<|ae (E:=EE [274])<|Bx 2 hGF rfl<|fun b2=>fN 3 hGF rfl rfl rfl<|fun b3=>Al 4 hGF zv233<|fun b4=>aa<|ae (E:=EE [274])<|ch 3 rfl rfl rfl isAgg3 rfl rfl<|Bnr (v:=I (n.tmod 12)) rfl rfl (fun _=>fM _ _ _ dc)<|Bnr (v:=I (n.tmod 12+12)) rfl rfl (fun _=>aA _ _ _ (Cr n))<|Bnr (v:=I (m:Int)) rfl rfl (fun _=>(fM _ _ _ dc).trans (by rw[WL,hm]))<|cM 3 hGF rfl rfl rfl sizeOf3 rfl (by show 0<1;decide) rfl<|aa<|ae (E:=EE [274])<|ch 3 rfl rfl rfl isAgg3 rfl rfl<|Ca rfl (GG m om)<|Ca rfl (q8)<|Al 5 hGF zv92<|fun b5=>Al 6 hGF zv92<|fun b6=>Sa 5 hGF rfl rfl rfl aH<|Sa 6 hGF rfl rfl rfl aH<|aa<|ae (E:=EE [274])<|Al 7 hGF zv307<|fun b7=>aa<|ah<|ae (E:=EE [274])<|La 2 rfl rfl eQ<|?_
 refine cV rfl rfl ent274 rfl rfl (fun w' hw'=>(qC x w' (hGF.g _ _ _ hw')).mono fun e' w'' h=> ?_)
 obtain ⟨c1,rfl,hg,h1,ho⟩:=h
 refine ⟨_,_,rfl,au hGF,hw'.news ak hg [(33,c1,(((fe (x.1.1).1++fe (x.1.1).2)++((fe (x.1.2.1).1++fe (x.1.2.1).2)++(fe (x.1.2.2).1++fe (x.1.2.2).2)))++((fe (x.2.1).1++fe (x.2.1).2)++((fe (x.2.2.1).1++fe (x.2.2.1).2)++(fe (x.2.2.2).1++fe (x.2.2.2).2)))).map U64,233)] ?_ bN, ?_⟩
 ·intro n' b' c' t' hl
  rcases aC hl with ⟨_,e⟩|⟨_,hl⟩
  ·cases e;exact ⟨h1,ho⟩
  ·cases hl
 clear hw' hg h1 ho
 refine aa<|aj<|?_
 refine ef (fun _=>pl w) (fun _ _=>pl w) (fun _=>hGF) (fun _ _=>hGF) (fun _=>rfl) (fun _ _=>rfl) rfl rfl ent290 (OF c1 x) (fun v hv=>by obtain ⟨k,hk,rfl⟩:=List.mem_map.1 hv;rfl) rfl (fun k=>[(2,b2,(((fe (x.1.1).1++fe (x.1.1).2)++((fe (x.1.2.1).1++fe (x.1.2.1).2)++(fe (x.1.2.2).1++fe (x.1.2.2).2)))++((fe (x.2.1).1++fe (x.2.1).2)++((fe (x.2.2.1).1++fe (x.2.2.1).2)++(fe (x.2.2.2).1++fe (x.2.2.2).2)))).map U64,233),(3,b3,[I (m:Int)],3),(4,b4,(((fe 0++fe 0)++((fe 0++fe 0)++(fe 0++fe 0)))++((fe 0++fe 0)++((fe 0++fe 0)++(fe 0++fe 0)))).map U64,233),(5,b5,(fe (GV m).1++fe (GV m).2).map U64,92),(6,b6,(fe (pw2 (GV m) k).1++fe (pw2 (GV m) k).2).map U64,92),(7,b7,(FM (FF (fun j=>if j<k then frq (p12 x j) m j else ze2)) 6).map U64,307),(33,c1,(((fe (x.1.1).1++fe (x.1.1).2)++((fe (x.1.2.1).1++fe (x.1.2.1).2)++(fe (x.1.2.2).1++fe (x.1.2.2).2)))++((fe (x.2.1).1++fe (x.2.1).2)++((fe (x.2.2.1).1++fe (x.2.2.1).2)++(fe (x.2.2.2).1++fe (x.2.2.2).2)))).map U64,233)]) (fun _ _ _=>False) ⟨rfl,rfl,rfl,rfl,rfl,congrArg (fun l=>some (b7,l,_)) (congrArg (List.map U64) (vt fun j _=>(if_neg (Nat.not_lt_zero j)).symm)),rfl,trivial⟩ (fun k _ w' h=>aO (n:=33) rfl w' h) ?_ ?_ (fun _ _ _ _ _ h=>h.elim)
 ·intro k v hx R hR
  obtain ⟨hk,rfl⟩:=JZ x k v hx
  refine ae (E:=EE [274])<|Asg rfl<|aa<|bC (E:=EE [274])<|cO 9 (hR (pl w) rfl hGF).1 zv92 rfl rfl<|fun b9=>ao 9 (hR (pl w) rfl hGF).1 rfl rfl rfl sizeOf92 sm sm (bk _) rfl<|aa<|?_
  refine ⟨rfl,_,rfl, ?_⟩
  refine aj<|ah<|ae (E:=EE [274])<|ch 3 rfl rfl rfl isAgg3 rfl rfl<|Bnr (v:=I ((m % 2:Nat):Int)) rfl rfl (fun _=>fM _ _ _ dc)<|Bnr rfl rfl (fun _=>cy _ _ _)<|aa<|?_
  refine bZ rfl (fun hc=> ?_) (fun hc=> ?_)
  ·have hp:m % 2=1:=by simp at hc;omega
   refine bC (E:=EE [274])<|La 9 rfl rfl aH<|Ca rfl (mM _)<|ao 9 (hR (pl w) rfl hGF).2.1 rfl rfl rfl sizeOf92 sm sm (bk _) rfl<|aa<|ae (E:=EE [274])<|Mv rfl<|La 9 rfl rfl aH<|La 6 rfl rfl aH<|Ca rfl (dh _ _)<|eK (k) (12*(k)) rfl rfl underlying307 sizeOf92 om om om rfl rfl<|kH 7 ((FM (FF (fun j=>if j<k+1 then frq (p12 x j) m j else ze2)) 6).map U64) (hR (pl w) rfl hGF).2.1 rfl rfl rfl sizeOf92 sm (bk _) (by simp;omega) (s4 _ _ (ml2 (cj2 (p12 x k)) (pw2 (GV m) k)) 6 (k) _ om rfl (fun j _=>by rw[←Wc hp];exact xD (fun j=>frq (p12 x j) m j) (fun _=>ze2) k j)) rfl<|aa<|bC (E:=EE [274])<|La 6 rfl rfl aH<|La 5 rfl rfl aH<|Ca rfl (dh _ _)<|ao 6 (hR (pl w) rfl hGF).2.1 rfl rfl rfl sizeOf92 sm sm (bk _) rfl<|aa<|?_
   repeat (refine a7 ?_)
   exact ⟨_,rfl,trv⟩
  ·have hp: ¬m % 2=1:=by simp at hc;omega
   refine ap<|ae (E:=EE [274])<|Mv rfl<|La 9 rfl rfl aH<|La 6 rfl rfl aH<|Ca rfl (dh _ _)<|eK (k) (12*(k)) rfl rfl underlying307 sizeOf92 om om om rfl rfl<|kH 7 ((FM (FF (fun j=>if j<k+1 then frq (p12 x j) m j else ze2)) 6).map U64) (hR (pl w) rfl hGF).2.1 rfl rfl rfl sizeOf92 sm (bk _) (by simp;omega) (s4 _ _ (ml2 (p12 x k) (pw2 (GV m) k)) 6 (k) _ om rfl (fun j _=>by rw[←VP hp];exact xD (fun j=>frq (p12 x j) m j) (fun _=>ze2) k j)) rfl<|aa<|bC (E:=EE [274])<|La 6 rfl rfl aH<|La 5 rfl rfl aH<|Ca rfl (dh _ _)<|ao 6 (hR (pl w) rfl hGF).2.1 rfl rfl rfl sizeOf92 sm sm (bk _) rfl<|aa<|?_
   repeat (refine a7 ?_)
   exact ⟨_,rfl,trv⟩
 ·intro D hD
  rw[qx]
  refine ae (E:=EE [274])<|La 7 rfl rfl Kt<|Ca rfl (Tt _)<|Sa 4 hD rfl rfl rfl eQ<|aa<|am<|Rr<|?_
  exact cP (.inl rfl) ak (ay 4 rfl rfl rfl isAgg233 sizeOf233 sm (fun w hw=>⟨e12 rfl rfl,ac hw⟩))
end Q6
end
section
open Go.RowKit
attribute [local simp] aW bd aU aP aD bf aL aK aB PLl cm cq N1l cr cp cu a8 bg aQ a6 bc J1.bj J2.bj Q6.eI Q6.fy
theorem ent237:ai prog 237:=fun _ _=>kr
theorem ent234:ai prog 234:=fun _ _=>kr
theorem ent212:ai prog 212:=fun _ _=>kr
theorem ent211:ai prog 211:=fun _ _=>kr
theorem ent118:ai prog 118:=fun _ _=>kr
namespace Q6
def pwu(u:Nat)(x:W12):W12:=K12.pw x u
theorem Us(x:W12):PUR 237 [ci x] (ci (pwu UG x)):=by
 intro w hw
 have hGF:BOk Gt (pl w):=gt_low.plain hw
 refine bV (G:=Gt) func237 rfl rfl (Hp (pl w) []) (bO (pl w) trivial ak) (au hGF)<|Xp<|Bx 1 hGF rfl<|fun b1=>Al 2 hGF zv233<|fun b2=>aa<|Xp<|La 1 rfl rfl eQ<|Al 3 hGF zv233<|fun b3=>Sa 3 hGF rfl rfl rfl eQ<|aa<|ah<|Xp<|Ca rfl (wZ)<|aa<|aj<|?_
 refine ef (fun _=>pl w) (fun _ _=>pl w) (fun _=>hGF) (fun _ _=>hGF) (fun _=>rfl) (fun _ _=>rfl) rfl rfl ent240 oJ (fun x hx=>by obtain ⟨k,hk,rfl⟩:=List.mem_map.1 hx;rfl) rfl (fun k=>[(1,b1,m4 x,233),(2,b2,(((fe 0++fe 0)++((fe 0++fe 0)++(fe 0++fe 0)))++((fe 0++fe 0)++((fe 0++fe 0)++(fe 0++fe 0)))).map U64,233),(3,b3,m4 (pwD x k),233)]) (fun _ _ _=>False) ⟨rfl,rfl,by rw[show pwD x 0=x from K12.pw_one x];rfl,trivial⟩ (fun _ _ _ _=>trivial) ?_ ?_ (fun _ _ _ _ _ h=>h.elim)
 ·intro k v hx R hR
  obtain ⟨hk,rfl⟩:=wI hx
  refine Xq<|Asg rfl<|aa<|?_
  refine ⟨rfl,_,rfl, ?_⟩
  refine aj<|Xp<|La 3 rfl rfl eQ<|Ca rfl (iO _)<|ao 3 (hR (pl w) rfl hGF).2.1 rfl rfl rfl sizeOf233 sm sm (bk _) rfl<|aa<|Xp<|Mv rfl<|aa<|?_
  refine bZ rfl (fun hc=> ?_) (fun hc=> ?_)
  ·have hd:DGb k=true:=by simpa using hc
   refine Xq<|La 3 rfl rfl eQ<|La 1 rfl rfl eQ<|Ca rfl (xg _ _)<|ao 3 (hR (pl w) rfl hGF).2.1 rfl rfl rfl sizeOf233 sm sm (bk _) rfl<|aa<|?_
   repeat (first|refine a7 ?_|refine bY ?_)
   exact ⟨_,rfl,⟨rfl,rfl,by first|(rw[←Lt x hk hd];rfl)|(rw[←LR x hk hd];rfl),trivial⟩⟩
  ·have hd:DGb k=false:=by simpa using hc
   refine ap ?_
   repeat (first|refine a7 ?_|refine bY ?_)
   exact ⟨_,rfl,⟨rfl,rfl,by first|(rw[←Lt x hk hd];rfl)|(rw[←LR x hk hd];rfl),trivial⟩⟩
 ·intro D hD
  rw[l5]
  refine Xp<|La 3 rfl rfl eQ<|Sa 2 hD rfl rfl rfl eQ<|aa<|am<|Rr<|?_
  exact cP (.inl rfl) ak (ay 2 rfl rfl rfl isAgg233 sizeOf233 sm (fun w hw=>⟨by rw[pwu,←RD],ac hw⟩))
abbrev HF(f:W12→W12):Prop:= ∀x,PUR 237 [ci x] (ci (f x))
def agI(m:Nat):Ag Unit where
 of:=fun v=>match v with
  | .inr (.inr (.inl (.int .i64 (.ofNat n))))=>bif Nat.beq n m then some ()else none
  |_=>none
 dn:=fun _=>I (m:Int)
 ok:=fun v x r h=>by
  split at h
  ·rename_i n
   obtain ⟨h1,h⟩:=eB h
   show Value.int .i64 (Int.ofNat n)=I (m:Int)
   rw[Nat.eq_of_beq_eq_true h1];rfl
  ·cases h
theorem QW(x:W12):PUR 235 [ci x,I 1] (ci (bP x)):=zi x 1
theorem O5(x:W12):PUR 235 [ci x,I 2] (ci (bP (bP x))):=zi x 2
theorem wfr{f:Nat}{g:W12→W12}(m:Nat)(en:ai prog f)(h: ∀a,PUR f [ci a,I (m:Int)] (ci (g a))):Snd prog Gt f (c2 q12.ag (agI m) q12.rd (fun a _=>g a)):=ge q12.ag (agI m) q12.rd en (fun a _=>bQ (l2 (V12 _).symm rfl) (V12 _).symm (h a))
def SD{f:W12→W12}(hf:HF f):Tb prog Gt:=TO224.add (cK (g:=f) ent237 hf)
def Ts{f:W12→W12}(hf:HF f):Tb prog Gt:=(SD hf).add (wfr (g:=bP) 1 ent235 QW)
def Kh{f:W12→W12}(hf:HF f):Tb prog Gt:=(Ts hf).add (wfr (g:=fun x=>bP (bP x)) 2 ent235 O5)
theorem Nj{α β:Type}(p:α×β):(p.1,p.2)=p:=by cases p;rfl
def pva(f:W12→W12)(x:W12):W12:=K12.mul (f x) x
def pez(x:W12):W12:=fi2 (fi1 x)
def ph1(f:W12→W12)(x:W12):W12:=K12.mul (bP x) (ca (f x))
def ph2(f:W12→W12)(x:W12):W12:=K12.mul (K12.mul (f (f x)) (bP (bP x))) (ca x)
def phd(f:W12→W12)(x:W12):W12:=K12.mul (K12.mul (ph2 f (ph1 f (pva f (pva f x)))) (K12.mul x x)) x
theorem Qz{p6:Nat}(h6: ∀x,ca x=K12.pw x p6)(x:W12)(u:Nat):ca (K12.pw x u)=K12.pw (ca x) u:=by rw[h6,h6,←K12.pw_mul,←K12.pw_mul,Nat.mul_comm]
theorem nG(x:W12)(u:Nat):ca (K12.pw x u)=K12.pw (ca x) u:=Qz (fun x=>(xK x).symm) x u
theorem DU(u:Nat)(x:W12):fi3 u x=ca (pva (pwu u) x):=by rw[fi3,tnd,←iW,pva,pwu]
theorem NO(u:Nat)(x:W12):pva (pwu u) (ca x)=ca (pva (pwu u) x):=by rw[pva,pva,pwu,pwu,←nG,←iW]
theorem Vp(u:Nat)(x:W12):pva (pwu u) (pva (pwu u) x)=fi3 u (fi3 u x):=by rw[DU,DU,NO,n4]
theorem OD(u:Nat)(x:W12):ph1 (pwu u) x=fi4 u x:=by rw[ph1,fi4,tnd,pwu];exact K12.mul_comm _ _
theorem Rf(u:Nat)(x:W12):ph2 (pwu u) x=fi5 u x:=by rw[ph2,fi5,tnd,tnd,←nG,n4,pwu,pwu]
theorem OH(u:Nat)(x:W12):phd (pwu u) x=fi6 u x:=by
 rw[phd,Vp,OD,Rf]
 show K12.mul (K12.mul _ (K12.mul _ _)) _=K12.mul (K12.mul (K12.mul _ _) _) _
 rw[←K12.mul_assoc]
theorem Rh(u:Nat)(x:W12):tz u x=phd (pwu u) (pez x):=by rw[tz,OH,pez]
def hO(f:W12→W12)(x:W12):W12:=
 let t0:=f x
 let t1:=K12.mul (((t0.1.1.1,t0.1.1.2),(t0.1.2.1.1,t0.1.2.1.2),(t0.1.2.2.1,t0.1.2.2.2)),((t0.2.1.1,t0.2.1.2),(t0.2.2.1.1,t0.2.2.1.2),(t0.2.2.2.1,t0.2.2.2.2))) x
 t1
theorem GE(f:W12→W12)(x:W12):hO f x=pva f x:=by
 unfold hO
 simp only[Nj]
 rfl
theorem Ut{f:W12→W12}(hf:HF f)(x:W12):PUR 234 [ci x] (ci (hO f x)):=(bQ (l1 (V12 _)) (V12 _) (pE (Kh hf) func234 [.inl [x.1.1.1,x.1.1.2,x.1.2.1.1,x.1.2.1.2,x.1.2.2.1,x.1.2.2.2,x.2.1.1,x.2.1.2,x.2.2.1.1,x.2.2.1.2,x.2.2.2.1,x.2.2.2.2]] (.inl (.inl [(hO f x).1.1.1,(hO f x).1.1.2,(hO f x).1.2.1.1,(hO f x).1.2.1.2,(hO f x).1.2.2.1,(hO f x).1.2.2.2,(hO f x).2.1.1,(hO f x).2.1.2,(hO f x).2.2.1.1,(hO f x).2.2.1.2,(hO f x).2.2.2.1,(hO f x).2.2.2.2])) (let t0:=f x;let t1:=K12.mul (((t0.1.1.1,t0.1.1.2),(t0.1.2.1.1,t0.1.2.1.2),(t0.1.2.2.1,t0.1.2.2.2)),((t0.2.1.1,t0.2.1.2),(t0.2.2.1.1,t0.2.2.1.2),(t0.2.2.2.1,t0.2.2.2.2))) x;(.inl (.inl [t1.1.1.1,t1.1.1.2,t1.1.2.1.1,t1.1.2.1.2,t1.1.2.2.1,t1.1.2.2.2,t1.2.1.1,t1.2.1.2,t1.2.2.1.1,t1.2.2.1.2,t1.2.2.2.1,t1.2.2.2.2]),[])) [] kr aI kr))
theorem ppva{f:W12→W12}(hf:HF f)(x:W12):PUR 234 [ci x] (ci (pva f x)):=by rw[←GE];exact Ut hf x
def Ma{f:W12→W12}(hf:HF f):Tb prog Gt:=(Kh hf).add (cK (g:=pva f) ent234 (ppva hf))
def gV(x:W12):W12:=
 let t0:=ca x
 let t1:=iC x
 let t2:=K12.mul (((t0.1.1.1,t0.1.1.2),(t0.1.2.1.1,t0.1.2.1.2),(t0.1.2.2.1,t0.1.2.2.2)),((t0.2.1.1,t0.2.1.2),(t0.2.2.1.1,t0.2.2.1.2),(t0.2.2.2.1,t0.2.2.2.2))) (((t1.1.1.1,t1.1.1.2),(t1.1.2.1.1,t1.1.2.1.2),(t1.1.2.2.1,t1.1.2.2.2)),((t1.2.1.1,t1.2.1.2),(t1.2.2.1.1,t1.2.2.1.2),(t1.2.2.2.1,t1.2.2.2.2)))
 let t3:=bP (bP (((t2.1.1.1,t2.1.1.2),(t2.1.2.1.1,t2.1.2.1.2),(t2.1.2.2.1,t2.1.2.2.2)),((t2.2.1.1,t2.2.1.2),(t2.2.2.1.1,t2.2.2.1.2),(t2.2.2.2.1,t2.2.2.2.2))))
 let t4:=K12.mul (((t3.1.1.1,t3.1.1.2),(t3.1.2.1.1,t3.1.2.1.2),(t3.1.2.2.1,t3.1.2.2.2)),((t3.2.1.1,t3.2.1.2),(t3.2.2.1.1,t3.2.2.1.2),(t3.2.2.2.1,t3.2.2.2.2))) (((t2.1.1.1,t2.1.1.2),(t2.1.2.1.1,t2.1.2.1.2),(t2.1.2.2.1,t2.1.2.2.2)),((t2.2.1.1,t2.2.1.2),(t2.2.2.1.1,t2.2.2.1.2),(t2.2.2.2.1,t2.2.2.2.2)))
 t4
theorem Gz(x:W12):gV x=pez x:=by
 unfold gV
 simp only[Nj]
 rfl
theorem Wb{f:W12→W12}(hf:HF f)(x:W12):PUR 212 [ci x] (ci (gV x)):=(bQ (l1 (V12 _)) (V12 _) (pE (Ma hf) func212 [.inl [x.1.1.1,x.1.1.2,x.1.2.1.1,x.1.2.1.2,x.1.2.2.1,x.1.2.2.2,x.2.1.1,x.2.1.2,x.2.2.1.1,x.2.2.1.2,x.2.2.2.1,x.2.2.2.2]] (.inl (.inl [(gV x).1.1.1,(gV x).1.1.2,(gV x).1.2.1.1,(gV x).1.2.1.2,(gV x).1.2.2.1,(gV x).1.2.2.2,(gV x).2.1.1,(gV x).2.1.2,(gV x).2.2.1.1,(gV x).2.2.1.2,(gV x).2.2.2.1,(gV x).2.2.2.2])) (let t0:=ca x;let t1:=iC x;let t2:=K12.mul (((t0.1.1.1,t0.1.1.2),(t0.1.2.1.1,t0.1.2.1.2),(t0.1.2.2.1,t0.1.2.2.2)),((t0.2.1.1,t0.2.1.2),(t0.2.2.1.1,t0.2.2.1.2),(t0.2.2.2.1,t0.2.2.2.2))) (((t1.1.1.1,t1.1.1.2),(t1.1.2.1.1,t1.1.2.1.2),(t1.1.2.2.1,t1.1.2.2.2)),((t1.2.1.1,t1.2.1.2),(t1.2.2.1.1,t1.2.2.1.2),(t1.2.2.2.1,t1.2.2.2.2)));let t3:=bP (bP (((t2.1.1.1,t2.1.1.2),(t2.1.2.1.1,t2.1.2.1.2),(t2.1.2.2.1,t2.1.2.2.2)),((t2.2.1.1,t2.2.1.2),(t2.2.2.1.1,t2.2.2.1.2),(t2.2.2.2.1,t2.2.2.2.2))));let t4:=K12.mul (((t3.1.1.1,t3.1.1.2),(t3.1.2.1.1,t3.1.2.1.2),(t3.1.2.2.1,t3.1.2.2.2)),((t3.2.1.1,t3.2.1.2),(t3.2.2.1.1,t3.2.2.1.2),(t3.2.2.2.1,t3.2.2.2.2))) (((t2.1.1.1,t2.1.1.2),(t2.1.2.1.1,t2.1.2.1.2),(t2.1.2.2.1,t2.1.2.2.2)),((t2.2.1.1,t2.2.1.2),(t2.2.2.1.1,t2.2.2.1.2),(t2.2.2.2.1,t2.2.2.2.2)));(.inl (.inl [t4.1.1.1,t4.1.1.2,t4.1.2.1.1,t4.1.2.1.2,t4.1.2.2.1,t4.1.2.2.2,t4.2.1.1,t4.2.1.2,t4.2.2.1.1,t4.2.2.1.2,t4.2.2.2.1,t4.2.2.2.2]),[])) [] kr aI kr))
theorem ppez{f:W12→W12}(hf:HF f)(x:W12):PUR 212 [ci x] (ci (pez x)):=by rw[←Gz];exact Wb hf x
def Me{f:W12→W12}(hf:HF f):Tb prog Gt:=(Ma hf).add (cK (g:=pez) ent212 (ppez hf))
def g9(f:W12→W12)(x:W12):W12:=
 let t0:=pva f x
 let t1:=pva f (((t0.1.1.1,t0.1.1.2),(t0.1.2.1.1,t0.1.2.1.2),(t0.1.2.2.1,t0.1.2.2.2)),((t0.2.1.1,t0.2.1.2),(t0.2.2.1.1,t0.2.2.1.2),(t0.2.2.2.1,t0.2.2.2.2)))
 let t2:=bP (((t1.1.1.1,t1.1.1.2),(t1.1.2.1.1,t1.1.2.1.2),(t1.1.2.2.1,t1.1.2.2.2)),((t1.2.1.1,t1.2.1.2),(t1.2.2.1.1,t1.2.2.1.2),(t1.2.2.2.1,t1.2.2.2.2)))
 let t3:=f (((t1.1.1.1,t1.1.1.2),(t1.1.2.1.1,t1.1.2.1.2),(t1.1.2.2.1,t1.1.2.2.2)),((t1.2.1.1,t1.2.1.2),(t1.2.2.1.1,t1.2.2.1.2),(t1.2.2.2.1,t1.2.2.2.2)))
 let t4:=ca (((t3.1.1.1,t3.1.1.2),(t3.1.2.1.1,t3.1.2.1.2),(t3.1.2.2.1,t3.1.2.2.2)),((t3.2.1.1,t3.2.1.2),(t3.2.2.1.1,t3.2.2.1.2),(t3.2.2.2.1,t3.2.2.2.2)))
 let t5:=K12.mul (((t2.1.1.1,t2.1.1.2),(t2.1.2.1.1,t2.1.2.1.2),(t2.1.2.2.1,t2.1.2.2.2)),((t2.2.1.1,t2.2.1.2),(t2.2.2.1.1,t2.2.2.1.2),(t2.2.2.2.1,t2.2.2.2.2))) (((t4.1.1.1,t4.1.1.2),(t4.1.2.1.1,t4.1.2.1.2),(t4.1.2.2.1,t4.1.2.2.2)),((t4.2.1.1,t4.2.1.2),(t4.2.2.1.1,t4.2.2.1.2),(t4.2.2.2.1,t4.2.2.2.2)))
 let t6:=f (((t5.1.1.1,t5.1.1.2),(t5.1.2.1.1,t5.1.2.1.2),(t5.1.2.2.1,t5.1.2.2.2)),((t5.2.1.1,t5.2.1.2),(t5.2.2.1.1,t5.2.2.1.2),(t5.2.2.2.1,t5.2.2.2.2)))
 let t7:=f (((t6.1.1.1,t6.1.1.2),(t6.1.2.1.1,t6.1.2.1.2),(t6.1.2.2.1,t6.1.2.2.2)),((t6.2.1.1,t6.2.1.2),(t6.2.2.1.1,t6.2.2.1.2),(t6.2.2.2.1,t6.2.2.2.2)))
 let t8:=bP (bP (((t5.1.1.1,t5.1.1.2),(t5.1.2.1.1,t5.1.2.1.2),(t5.1.2.2.1,t5.1.2.2.2)),((t5.2.1.1,t5.2.1.2),(t5.2.2.1.1,t5.2.2.1.2),(t5.2.2.2.1,t5.2.2.2.2))))
 let t9:=K12.mul (((t7.1.1.1,t7.1.1.2),(t7.1.2.1.1,t7.1.2.1.2),(t7.1.2.2.1,t7.1.2.2.2)),((t7.2.1.1,t7.2.1.2),(t7.2.2.1.1,t7.2.2.1.2),(t7.2.2.2.1,t7.2.2.2.2))) (((t8.1.1.1,t8.1.1.2),(t8.1.2.1.1,t8.1.2.1.2),(t8.1.2.2.1,t8.1.2.2.2)),((t8.2.1.1,t8.2.1.2),(t8.2.2.1.1,t8.2.2.1.2),(t8.2.2.2.1,t8.2.2.2.2)))
 let t10:=ca (((t5.1.1.1,t5.1.1.2),(t5.1.2.1.1,t5.1.2.1.2),(t5.1.2.2.1,t5.1.2.2.2)),((t5.2.1.1,t5.2.1.2),(t5.2.2.1.1,t5.2.2.1.2),(t5.2.2.2.1,t5.2.2.2.2)))
 let t11:=K12.mul (((t9.1.1.1,t9.1.1.2),(t9.1.2.1.1,t9.1.2.1.2),(t9.1.2.2.1,t9.1.2.2.2)),((t9.2.1.1,t9.2.1.2),(t9.2.2.1.1,t9.2.2.1.2),(t9.2.2.2.1,t9.2.2.2.2))) (((t10.1.1.1,t10.1.1.2),(t10.1.2.1.1,t10.1.2.1.2),(t10.1.2.2.1,t10.1.2.2.2)),((t10.2.1.1,t10.2.1.2),(t10.2.2.1.1,t10.2.2.1.2),(t10.2.2.2.1,t10.2.2.2.2)))
 let t12:=K12.mul x x
 let t13:=K12.mul (((t11.1.1.1,t11.1.1.2),(t11.1.2.1.1,t11.1.2.1.2),(t11.1.2.2.1,t11.1.2.2.2)),((t11.2.1.1,t11.2.1.2),(t11.2.2.1.1,t11.2.2.1.2),(t11.2.2.2.1,t11.2.2.2.2))) (((t12.1.1.1,t12.1.1.2),(t12.1.2.1.1,t12.1.2.1.2),(t12.1.2.2.1,t12.1.2.2.2)),((t12.2.1.1,t12.2.1.2),(t12.2.2.1.1,t12.2.2.1.2),(t12.2.2.2.1,t12.2.2.2.2)))
 let t14:=K12.mul (((t13.1.1.1,t13.1.1.2),(t13.1.2.1.1,t13.1.2.1.2),(t13.1.2.2.1,t13.1.2.2.2)),((t13.2.1.1,t13.2.1.2),(t13.2.2.1.1,t13.2.2.1.2),(t13.2.2.2.1,t13.2.2.2.2))) x
 t14
theorem Di(f:W12→W12)(x:W12):g9 f x=phd f x:=by
 unfold g9
 simp only[Nj]
 rfl
theorem Wp{f:W12→W12}(hf:HF f)(x:W12):PUR 211 [ci x] (ci (g9 f x)):=(bQ (l1 (V12 _)) (V12 _) (pE (Me hf) func211 [.inl [x.1.1.1,x.1.1.2,x.1.2.1.1,x.1.2.1.2,x.1.2.2.1,x.1.2.2.2,x.2.1.1,x.2.1.2,x.2.2.1.1,x.2.2.1.2,x.2.2.2.1,x.2.2.2.2]] (.inl (.inl [(g9 f x).1.1.1,(g9 f x).1.1.2,(g9 f x).1.2.1.1,(g9 f x).1.2.1.2,(g9 f x).1.2.2.1,(g9 f x).1.2.2.2,(g9 f x).2.1.1,(g9 f x).2.1.2,(g9 f x).2.2.1.1,(g9 f x).2.2.1.2,(g9 f x).2.2.2.1,(g9 f x).2.2.2.2])) (let t0:=pva f x;let t1:=pva f (((t0.1.1.1,t0.1.1.2),(t0.1.2.1.1,t0.1.2.1.2),(t0.1.2.2.1,t0.1.2.2.2)),((t0.2.1.1,t0.2.1.2),(t0.2.2.1.1,t0.2.2.1.2),(t0.2.2.2.1,t0.2.2.2.2)));let t2:=bP (((t1.1.1.1,t1.1.1.2),(t1.1.2.1.1,t1.1.2.1.2),(t1.1.2.2.1,t1.1.2.2.2)),((t1.2.1.1,t1.2.1.2),(t1.2.2.1.1,t1.2.2.1.2),(t1.2.2.2.1,t1.2.2.2.2)));let t3:=f (((t1.1.1.1,t1.1.1.2),(t1.1.2.1.1,t1.1.2.1.2),(t1.1.2.2.1,t1.1.2.2.2)),((t1.2.1.1,t1.2.1.2),(t1.2.2.1.1,t1.2.2.1.2),(t1.2.2.2.1,t1.2.2.2.2)));let t4:=ca (((t3.1.1.1,t3.1.1.2),(t3.1.2.1.1,t3.1.2.1.2),(t3.1.2.2.1,t3.1.2.2.2)),((t3.2.1.1,t3.2.1.2),(t3.2.2.1.1,t3.2.2.1.2),(t3.2.2.2.1,t3.2.2.2.2)));let t5:=K12.mul (((t2.1.1.1,t2.1.1.2),(t2.1.2.1.1,t2.1.2.1.2),(t2.1.2.2.1,t2.1.2.2.2)),((t2.2.1.1,t2.2.1.2),(t2.2.2.1.1,t2.2.2.1.2),(t2.2.2.2.1,t2.2.2.2.2))) (((t4.1.1.1,t4.1.1.2),(t4.1.2.1.1,t4.1.2.1.2),(t4.1.2.2.1,t4.1.2.2.2)),((t4.2.1.1,t4.2.1.2),(t4.2.2.1.1,t4.2.2.1.2),(t4.2.2.2.1,t4.2.2.2.2)));let t6:=f (((t5.1.1.1,t5.1.1.2),(t5.1.2.1.1,t5.1.2.1.2),(t5.1.2.2.1,t5.1.2.2.2)),((t5.2.1.1,t5.2.1.2),(t5.2.2.1.1,t5.2.2.1.2),(t5.2.2.2.1,t5.2.2.2.2)));let t7:=f (((t6.1.1.1,t6.1.1.2),(t6.1.2.1.1,t6.1.2.1.2),(t6.1.2.2.1,t6.1.2.2.2)),((t6.2.1.1,t6.2.1.2),(t6.2.2.1.1,t6.2.2.1.2),(t6.2.2.2.1,t6.2.2.2.2)));let t8:=bP (bP (((t5.1.1.1,t5.1.1.2),(t5.1.2.1.1,t5.1.2.1.2),(t5.1.2.2.1,t5.1.2.2.2)),((t5.2.1.1,t5.2.1.2),(t5.2.2.1.1,t5.2.2.1.2),(t5.2.2.2.1,t5.2.2.2.2))));let t9:=K12.mul (((t7.1.1.1,t7.1.1.2),(t7.1.2.1.1,t7.1.2.1.2),(t7.1.2.2.1,t7.1.2.2.2)),((t7.2.1.1,t7.2.1.2),(t7.2.2.1.1,t7.2.2.1.2),(t7.2.2.2.1,t7.2.2.2.2))) (((t8.1.1.1,t8.1.1.2),(t8.1.2.1.1,t8.1.2.1.2),(t8.1.2.2.1,t8.1.2.2.2)),((t8.2.1.1,t8.2.1.2),(t8.2.2.1.1,t8.2.2.1.2),(t8.2.2.2.1,t8.2.2.2.2)));let t10:=ca (((t5.1.1.1,t5.1.1.2),(t5.1.2.1.1,t5.1.2.1.2),(t5.1.2.2.1,t5.1.2.2.2)),((t5.2.1.1,t5.2.1.2),(t5.2.2.1.1,t5.2.2.1.2),(t5.2.2.2.1,t5.2.2.2.2)));let t11:=K12.mul (((t9.1.1.1,t9.1.1.2),(t9.1.2.1.1,t9.1.2.1.2),(t9.1.2.2.1,t9.1.2.2.2)),((t9.2.1.1,t9.2.1.2),(t9.2.2.1.1,t9.2.2.1.2),(t9.2.2.2.1,t9.2.2.2.2))) (((t10.1.1.1,t10.1.1.2),(t10.1.2.1.1,t10.1.2.1.2),(t10.1.2.2.1,t10.1.2.2.2)),((t10.2.1.1,t10.2.1.2),(t10.2.2.1.1,t10.2.2.1.2),(t10.2.2.2.1,t10.2.2.2.2)));let t12:=K12.mul x x;let t13:=K12.mul (((t11.1.1.1,t11.1.1.2),(t11.1.2.1.1,t11.1.2.1.2),(t11.1.2.2.1,t11.1.2.2.2)),((t11.2.1.1,t11.2.1.2),(t11.2.2.1.1,t11.2.2.1.2),(t11.2.2.2.1,t11.2.2.2.2))) (((t12.1.1.1,t12.1.1.2),(t12.1.2.1.1,t12.1.2.1.2),(t12.1.2.2.1,t12.1.2.2.2)),((t12.2.1.1,t12.2.1.2),(t12.2.2.1.1,t12.2.2.1.2),(t12.2.2.2.1,t12.2.2.2.2)));let t14:=K12.mul (((t13.1.1.1,t13.1.1.2),(t13.1.2.1.1,t13.1.2.1.2),(t13.1.2.2.1,t13.1.2.2.2)),((t13.2.1.1,t13.2.1.2),(t13.2.2.1.1,t13.2.2.1.2),(t13.2.2.2.1,t13.2.2.2.2))) x;(.inl (.inl [t14.1.1.1,t14.1.1.2,t14.1.2.1.1,t14.1.2.1.2,t14.1.2.2.1,t14.1.2.2.2,t14.2.1.1,t14.2.1.2,t14.2.2.1.1,t14.2.2.1.2,t14.2.2.2.1,t14.2.2.2.2]),[])) [] kr aI kr))
theorem pphd{f:W12→W12}(hf:HF f)(x:W12):PUR 211 [ci x] (ci (phd f x)):=by rw[←Di];exact Wp hf x
def W5{f:W12→W12}(hf:HF f):Tb prog Gt:=(Me hf).add (cK (g:=phd f) ent211 (pphd hf))
theorem H6{f:W12→W12}(hf:HF f)(x:W12):PUR 177 [ci x] (ci (phd f (pez x))):=(bQ (l1 (V12 _)) (V12 _) (pE (W5 hf) func177 [.inl [x.1.1.1,x.1.1.2,x.1.2.1.1,x.1.2.1.2,x.1.2.2.1,x.1.2.2.2,x.2.1.1,x.2.1.2,x.2.2.1.1,x.2.2.1.2,x.2.2.2.1,x.2.2.2.2]] (.inl (.inl [(phd f (pez x)).1.1.1,(phd f (pez x)).1.1.2,(phd f (pez x)).1.2.1.1,(phd f (pez x)).1.2.1.2,(phd f (pez x)).1.2.2.1,(phd f (pez x)).1.2.2.2,(phd f (pez x)).2.1.1,(phd f (pez x)).2.1.2,(phd f (pez x)).2.2.1.1,(phd f (pez x)).2.2.1.2,(phd f (pez x)).2.2.2.1,(phd f (pez x)).2.2.2.2])) (let t0:=pez x;let t1:=phd f (((t0.1.1.1,t0.1.1.2),(t0.1.2.1.1,t0.1.2.1.2),(t0.1.2.2.1,t0.1.2.2.2)),((t0.2.1.1,t0.2.1.2),(t0.2.2.1.1,t0.2.2.1.2),(t0.2.2.2.1,t0.2.2.2.2)));(.inl (.inl [t1.1.1.1,t1.1.1.2,t1.1.2.1.1,t1.1.2.1.2,t1.1.2.2.1,t1.1.2.2.2,t1.2.1.1,t1.2.1.2,t1.2.2.1.1,t1.2.2.1.2,t1.2.2.2.1,t1.2.2.2.2]),[])) [] kr aI kr))
theorem MS(x:W12):PUR 177 [ci x] (ci (tz UG x)):=by rw[Rh];exact H6 Us x
end Q6
end
section
open Go.RowKit
attribute [local simp] aW bd aU aP aD bf aL aK aB PLl cm cq N1l cr cp cu a8 bg aQ a6 bc J1.bj J2.bj Q6.eI Q6.fy
namespace Q6
theorem Qr{f:Nat→J1.GP×J2.GP}{n:Nat}(hf: ∀i,i<n→E2w.times (f i).2.P ORD=none):tz UG (LPv f n)=FN FE (PRD f n):=by
 rw[CF]
 exact (Np hf).fn Hh
def PRN(f:Nat→J1.GP×J2.GP):Nat→W12
 |0=>K12.one
 |i+1=>K12.mul (PRN f i) (PR L63 FE (f i).1.P (f i).2.P)
theorem Dy(f:Nat→J1.GP×J2.GP): ∀n,FN FE (PRD f n)=PRN f n
 |0=>ll
 |n+1=>by rw[PRD,pG,Dy f n,PRN,PR]
theorem Ir(l c:Nat)(x:Option Addr)(a:W12)(w:World)(hw:Gt w)(hL: ∀w',Gt w'→Grow w w'→CLS 178 [.slice x l c].toArray w' (fun y w''=>y=.returned (ci a)∧Grow w' w'')):CLS 118 [.slice x l c].toArray w (fun r w'=>r=.returned (.bool (decide (tz UG a=K12.one)))∧Grow w w'):=by
 refine Hf func118 rfl hw<|fun hGF=>Xp<|Asg rfl<|aa<|Xp<|Mv rfl<|Cc rfl ent178 (fun w' hC hG=>hL w' hG (ac hC))<|Ca rfl (MS a)<|Ca rfl (pW)<|Ca rfl (qp _ _)<|Asg rfl<|aa<|am<|Rr<|?_
 exact aE rfl rfl (fun w hw=>⟨rfl,ac hw⟩)
theorem gM{w w':World}{b:Nat}{cs:List Value}(h:w.rangeAt b 0 cs)(hg:Grow w w'):w'.rangeAt b 0 cs:=fun j v hv=>(hg.cell (block_lt_of_cell (h j v hv))).trans (h j v hv)
theorem Px(n:Nat)(f:Nat→J1.GP×J2.GP)(b cap:Nat)(hn:n≤1000)(hf: ∀i,i<n→E2w.times (f i).2.P ORD=none)(w:World)(hw:Gt w)(h:w.rangeAt b 0 ((RW 54 (fun i=>PRv (f i)) n).map U64)):CLS 118 [.slice (spt b) n cap].toArray w (fun r w'=>r=.returned (.bool (decide (PRN f n=K12.one)))∧Grow w w'):=by
 have k:=Ir n cap (spt b) (LPv f n) w hw fun w' hG hg=>Nu n f b cap hn hf w' hG (gM h hg)
 rw[Qr hf,Dy]at k
 exact k
end Q6
end
section
open Go.RowKit
attribute [local simp] gg aU aP aD aL aK uI MLl K4 IVRl IY a8
abbrev RV(x:Zr):Value:=aT (nr x)
theorem zv27(w:World):(zeroValue 27).run prog w=.ok (aT (List.replicate 6 (0#64))) w:=(zeroValue27 w).trans rr
theorem zv112(w:World):(zeroValue 112).run prog w=.ok (.agg ((List.replicate 32 (0#8)).map U8).toArray) w:=(zeroValue112 w).trans rr
theorem Bv(x y:Zr):decide (nr x=nr y)=decide (x=y):=decide_eq_decide.2 P3
theorem QD{x y:BitVec 64}(h:(x==y)=true):x=y:=beq_iff_eq.1 h
theorem OV{x y:BitVec 64}(h:(x==y)=false): ¬x=y:=beq_eq_false_iff_ne.1 h
theorem ent12:ai prog 12:=fun _ _=>kr
theorem ent25:ai prog 25:=fun _ _=>kr
theorem ent93:ai prog 93:=fun _ _=>kr
theorem wu(a b:L6)(ha:a.length=6)(hb:b.length=6):PUR 85 [NV a,NV b] (NV (gx (gx a b ML) LIFT ML)):=by
 intro w hw
 refine Hf func85 rfl hw<|fun hGF=>Xp<|Bx 2 hGF rfl<|fun b2=>Bx 3 hGF rfl<|fun b3=>Al 4 hGF zv25<|fun b4=>aa<|Xd []<|a9 2 rfl rfl isAgg25 sizeOf25 (by first|(simp;done)|exact ha|exact hb|(rw[List.length_map];exact ha)|(rw[List.length_map];exact hb)) rfl rfl<|a9 3 rfl rfl isAgg25 sizeOf25 (by first|(simp;done)|exact ha|exact hb|(rw[List.length_map];exact ha)|(rw[List.length_map];exact hb)) rfl rfl<|fZ hGF isAgg25 sizeOf25 (by first|(simp;done)|exact ha|exact hb|(rw[List.length_map];exact ha)|(rw[List.length_map];exact hb)) (fun _ h=>h.g1) rfl rfl<|Ca rfl (gG _ _ _ (by first|(simp;done)|exact ha|exact hb|(rw[List.length_map];exact ha)|(rw[List.length_map];exact hb)) (by first|(simp;done)|exact ha|exact hb|(rw[List.length_map];exact ha)|(rw[List.length_map];exact hb)) (by first|(simp;done)|exact ha|exact hb|(rw[List.length_map];exact ha)|(rw[List.length_map];exact hb)))<|fZ hGF isAgg25 sizeOf25 (by first|(simp;done)|exact ha|exact hb|(rw[List.length_map];exact ha)|(rw[List.length_map];exact hb)) (fun _ h=>h.g0) rfl rfl<|fZ hGF isAgg25 sizeOf25 (by first|(simp;done)|exact ha|exact hb|(rw[List.length_map];exact ha)|(rw[List.length_map];exact hb)) (fun _ h=>h.g1) rfl rfl<|Ca rfl (gG _ _ _ (by first|(simp;done)|exact ha|exact hb|(rw[List.length_map];exact ha)|(rw[List.length_map];exact hb)) (by first|(simp;done)|exact ha|exact hb|(rw[List.length_map];exact ha)|(rw[List.length_map];exact hb)) (by first|(simp;done)|exact ha|exact hb|(rw[List.length_map];exact ha)|(rw[List.length_map];exact hb)))<|ao 4 hGF rfl rfl rfl sizeOf25 (by first|(simp;done)|exact ha|exact hb|(rw[List.length_map];exact ha)|(rw[List.length_map];exact hb)) (by first|(simp;done)|exact ha|exact hb|(rw[List.length_map];exact ha)|(rw[List.length_map];exact hb)) (bk _) rfl<|aa<|am<|Rr<|?_
 exact ay 4 rfl rfl rfl isAgg25 sizeOf25 (by first|(simp;done)|exact ha|exact hb|(rw[List.length_map];exact ha)|(rw[List.length_map];exact hb)) (fun w hw=>⟨rfl,ac hw⟩)
theorem xx(n:L6)(hn:n.length=6):PUR 40 [NV n] (RV (zr (V n 6))):=by
 intro w hw
 refine Hf func40 rfl hw<|fun hGF=>Xp<|Bx 1 hGF rfl<|fun b1=>Al 2 hGF zv27<|fun b2=>aa<|Xp<|kL 1 rfl underlying25 sizeOf24 zv25 rfl rfl<|a9 1 rfl rfl isAgg25 sizeOf25 (by first|(simp;done)|simp[hn]) rfl rfl<|Ca rfl (wu _ _ (by first|(simp;done)|simp[hn]) (by first|(simp;done)|simp[hn]))<|dq rfl (by first|(simp;done)|simp[hn]) underlying27 rfl sizeOf25 zv27 rfl rfl<|ao 2 hGF rfl rfl rfl sizeOf27 (by first|(simp;done)|simp[hn]) (by first|(simp;done)|simp[hn]) (bk _) rfl<|aa<|am<|Rr<|?_
 exact ay 2 rfl rfl rfl isAgg27 sizeOf27 (by first|(simp;done)|simp[hn]) (fun w hw=>⟨congrArg (fun l=>Ending.returned (NV l)) (A1 n),ac hw⟩)
theorem qy(n:BitVec 64):PUR 28 [U64 n] (RV (zr n.toNat)):=by
 intro w hw
 refine Hf func28 rfl hw<|fun hGF=>Xp<|Al 2 hGF zv27<|fun b2=>aa<|Xp<|Mv rfl<|kL n rfl underlying25 sizeOf24 zv25 rfl rfl<|dq rfl sm underlying27 rfl sizeOf25 zv27 rfl rfl<|Sa 2 hGF rfl rfl rfl cw<|aa<|am<|Rr<|?_
 exact ay 2 rfl rfl rfl isAgg27 sizeOf27 sm (fun w hw=>⟨congrArg (fun l=>Ending.returned (NV l)) (GC n),ac hw⟩)
theorem c9(x:Zr):PUR 25 [RV x] (.bool (decide (x=0))):=by
 intro w hw
 refine Hf func25 rfl hw<|fun hGF=>Xp<|Bx 1 hGF rfl<|fun b1=>Asg rfl<|aa<|Xp<|Fa 0 rfl underlying27 rfl sizeOf25<|La 1 rfl rfl bK<|gJ zv25 underlying25 sizeOf24 rfl rfl<|dH rfl rfl (fun _=>CS _ _ _ _ _ _) (fun w=>CV _ _ sm sm w) rfl rfl<|Asg rfl<|aa<|am<|Rr<|?_
 exact aE rfl rfl (fun w hw=>⟨by rw[←QU,Bv],ac hw⟩)
theorem dW(x y:Zr):PUR 36 [RV x,RV y] (RV (x+y)):=by
 intro w hw
 refine Hf func36 rfl hw<|fun hGF=>Xp<|Bx 2 hGF rfl<|fun b2=>Bx 3 hGF rfl<|fun b3=>Al 4 hGF zv27<|fun b4=>aa<|Xp<|Fa 0 rfl underlying27 rfl sizeOf25<|La 2 rfl rfl bK<|Fa 0 rfl underlying27 rfl sizeOf25<|La 3 rfl rfl bK<|Ca rfl (mx _ _ sm sm)<|Mv rfl<|Ext rfl rfl<|Ext rfl rfl<|Al 5 hGF zv25<|fun b5=>Sa 5 hGF rfl rfl rfl bK<|Asg rfl<|aa<|Xp<|La 5 rfl rfl bK<|fZ hGF isAgg25 sizeOf25 sm (fun _ h=>h.g1) rfl rfl<|Ca rfl (iU _ _ sm sm)<|Mv rfl<|Ext rfl rfl<|Ext rfl rfl<|Al 7 hGF zv25<|fun b7=>Sa 7 hGF rfl rfl rfl bK<|Asg rfl<|aa<|ah<|Xp<|Mv rfl<|Bnr rfl rfl (fun _=>bX _ _ _)<|aa<|?_
 refine bZ rfl (fun hc=> ?_) (fun hc=> ?_)
 ·refine Xp<|La 5 rfl rfl bK<|dq rfl sm underlying27 rfl sizeOf25 zv27 rfl rfl<|Sa 4 hGF rfl rfl rfl cw<|aa<|am<|Rr<|?_
  exact ay 4 rfl rfl rfl isAgg27 sizeOf27 sm (fun w hw=>⟨by rw[GZ (QD hc)],ac hw⟩)
 ·refine ap<|Xp<|La 7 rfl rfl bK<|dq rfl sm underlying27 rfl sizeOf25 zv27 rfl rfl<|Sa 4 hGF rfl rfl rfl cw<|aa<|am<|Rr<|?_
  exact ay 4 rfl rfl rfl isAgg27 sizeOf27 sm (fun w hw=>⟨by rw[BB (wQ (wy _ _ _) (OV hc))],ac hw⟩)
theorem sN(a:Option Addr)(len cap:Nat)(bs:L8)(hl:bs.length=len)(h:len≤48)(w:World)(hw:Gt w)(hby:BytesAt w a bs):
 CLS 38 [.slice a len cap].toArray w (fun e w'=>e=.returned (.tuple #[NV (FRs bs bs.length),.bool true])∧Grow w w'):=by
 subst hl
 exact (pY a cap bs w hw hby).mono fun e w' ⟨he,hg⟩=>⟨by rw[he,if_neg om],hg⟩
structure QSt(w:World)(bs:L8) where
 (k:Nat) (a:Option Addr) (c:Nat)
 hk:k≤bs.length
 hc:bs.length-k≤c
 hb:BytesAt w a (bs.drop k)
 hm:k=0∨(bs.length-k) % 48=0
theorem xJ(y:Zr):PUR 39 [NV LIFT,RV y,NV ML] (RV (y*qRZ)):=by
 have h:=gG LIFT (nr y) ML rfl (gg y) rfl
 rw[AG]at h
 exact h
theorem vI(bs:L8)(h:bs.length≤48):PUR 40 [NV (FRs bs bs.length)] (RV (zr (BN bs bs.length))):=ru bs h▸xx (FRs bs bs.length) (aL _ _)
theorem nz(e:Option Addr)(cap:Nat)(bs:L8)(hlen:bs.length≤1000000)(hcap:bs.length≤cap)(w:World)(hw:Gt w)(hby:BytesAt w e bs):
 CLS 12 [.slice e bs.length cap].toArray w (fun r w'=>r=.returned (RV (QB bs))∧Grow w w'):=by
 refine Hf func12 rfl hw<|fun hGF=>Xp<|Al 2 hGF zv27<|fun b2=>aa<|Xp<|Al 3 hGF zv27<|fun b3=>aa<|ah<|aj<|cG (ι:=QSt w bs) (fun x=>[(0,.slice x.a (bs.length-x.k) x.c),(2,pnt b2),(3,pnt b3)]) (fun x=>[(2,b2,(List.replicate 6 0#64).map U64,27),(3,b3,(nr (zr (BN bs x.k))).map U64,27)]) (fun x=>(bs.length-x.k)) ⟨0,e,cap,Nat.zero_le _,hcap,hby,.inl rfl⟩ hGF trv ⟨rfl,by rw[BN,P1,QU];rfl,trivial⟩<|fun x=>ah<|Xp<|Mv rfl<|a5 rfl (fun _=>az underlying22 _ _ _ _) rfl rfl<|Bnr rfl rfl (fun _=>ba _ _ _)<|aa<|?_
 refine bZ rfl (fun hc=> ?_) (fun hc=> ?_)
 ·have hn:0<(bs.length-x.k):=by simp at hc;omega
  clear hc
  have hlenx:=x.hk
  have hcut:=AJ hn
  have hnext:BytesAt w (if x.c=(((bs.length-x.k)-1) % 48+1)then x.a else x.a.map (·.add ((((bs.length-x.k)-1) % 48+1)*1))) (bs.drop (x.k+(((bs.length-x.k)-1) % 48+1))):=by
   have:=x.hb.drop (cap:=x.c) (l:=(((bs.length-x.k)-1) % 48+1)) (by rw[List.length_drop];exact x.hc) om
   rw[List.drop_drop]at this
   exact this
  have hstep:zr (BN bs x.k)*qRZ+zr (BN ((bs.drop x.k).take (((bs.length-x.k)-1) % 48+1)) ((bs.drop x.k).take (((bs.length-x.k)-1) % 48+1)).length)=zr (BN bs (x.k+(((bs.length-x.k)-1) % 48+1))):=by
   rw[lr bs x.k _ hcut.2.1,F9]
   exact xf bs x.k _ (jf id (J7 hn) x.hm)
  refine ap<|aj<|Xp<|Mv rfl<|a5 rfl (fun _=>az underlying22 _ _ _ _) rfl rfl<|Bnr (v:=I (((bs.length-x.k)-1:Nat):Int)) rfl rfl (fun _=>(bu _ _ _ oi).trans (by rw[show ((bs.length-x.k:Nat):Int)-1=((bs.length-x.k-1:Nat):Int) by omega]))<|dH (v:=I ((((bs.length-x.k)-1) % 48:Nat):Int)) rfl rfl (fun _=>rfl) (fun _=>fM _ _ _ dc) rfl rfl<|dH (v:=I (((((bs.length-x.k)-1) % 48+1):Nat):Int)) rfl rfl (fun _=>rfl) (fun _=>aA _ _ _ oi) rfl rfl<|Asg rfl<|aa<|Xp<|Mv rfl<|Mv rfl<|kD (l:=0) (h':=(((bs.length-x.k)-1) % 48+1)) rfl underlying22 sizeOf5 rfl rfl ⟨Nat.zero_le _,Nat.le_trans hcut.2.1 x.hc⟩ rfl rfl<|ma rfl rfl ent38 (fun w' hC hG=>sN _ (((bs.length-x.k)-1) % 48+1) _ ((bs.drop x.k).take (((bs.length-x.k)-1) % 48+1)) (lr bs x.k _ hcut.2.1) hcut.2.2 w' hG ((x.hb.cut 0 (((bs.length-x.k)-1) % 48+1) (by rw[List.length_drop];exact x.hc)).grow (ac hC))) rfl rfl<|Mv rfl<|Ext rfl rfl<|Ext rfl rfl<|Al 5 hGF zv25<|fun b5=>Sa 5 hGF rfl rfl rfl bK<|Asg rfl<|aa<|Xd []<|fZ hGF isAgg25 sizeOf25 sm (fun _ h=>h.g0) rfl rfl<|Fa 0 rfl underlying27 rfl sizeOf25<|La 3 rfl rfl bK<|fZ hGF isAgg25 sizeOf25 sm (fun _ h=>h.g1) rfl rfl<|Ca rfl (xJ _)<|dq rfl sm underlying27 rfl sizeOf25 zv27 rfl rfl<|La 5 rfl rfl bK<|Ca rfl (vI ((bs.drop x.k).take (((bs.length-x.k)-1) % 48+1)) (by rw[lr bs x.k _ hcut.2.1];exact hcut.2.2))<|Ca rfl (dW _ _)<|Sa 3 hGF rfl rfl rfl cw<|aa<|Xq<|Mv rfl<|Mv rfl<|kD (l:=(((bs.length-x.k)-1) % 48+1)) (h':=(bs.length-x.k)) rfl underlying22 sizeOf5 rfl rfl ⟨hcut.2.1,x.hc⟩ rfl rfl<|Asg rfl<|aa<|?_
  repeat (refine a7 ?_)
  exact aR<|⟨rfl,⟨x.k+(((bs.length-x.k)-1) % 48+1),_,x.c-(((bs.length-x.k)-1) % 48+1),by have:=x.hk;omega,by have:=x.hc;omega,hnext,.inr (by rw[Nat.sub_add_eq];exact hcut.1)⟩,_,by show bs.length-(x.k+(((bs.length-x.k)-1) % 48+1))<bs.length-x.k;omega,rfl,⟨congrArg (fun n=>some (Value.slice _ n _)) (Nat.sub_sub bs.length x.k (((bs.length-x.k)-1) % 48+1)),rfl,rfl,trivial⟩,⟨rfl,by rw[←hstep];rfl,trivial⟩⟩
 ·have hn:x.k=bs.length:=by simp at hc;have:=x.hk;omega
  clear hc
  refine be<|Xp<|La 3 rfl rfl cw<|Sa 2 hGF rfl rfl rfl cw<|aa<|am<|Rr<|?_
  exact ay 2 rfl rfl rfl isAgg27 sizeOf27 sm (fun w hw=>⟨by rw[hn];rfl,ac hw⟩)
end
section
open Go.RowKit
theorem ent143:ai prog 143:=fun _ _=>kr
theorem ent192:ai prog 192:=fun _ _=>kr
theorem wd(a:L6)(_ha:a.length=6)(w:World)(hw:Gt w):CLS 143 [aT (a)].toArray w (fun e w'=> ∃b1,e=.returned (.func (.func 192) #[] #[pnt b1])∧Grow w w'∧w.heap.size≤b1∧OwnB w' b1 (a.map U64) 25):=by
 refine Hf func143 rfl hw<|fun hGF=>Xp<|Bx 1 hGF rfl<|fun b1=>Asg rfl<|aa<|Xp<|eV rfl rfl rfl rfl<|Asg rfl<|aa<|am<|Rr<|?_
 exact aE rfl rfl (fun w hw=>⟨b1,rfl,ac hw,(hw.own 1 b1 _ _ rfl).2.elim id False.elim,(hw.own 1 b1 _ _ rfl).1⟩)
theorem un(bb:Nat)(a:L6)(ha:a.length=6):eG prog Gt 192 [pnt bb] (BT a) (fun W=>W.rangeAt bb 0 (a.map U64)):=by
 intro l J Jx hJ hJx hRd hGx hY w hj
 have okJ: ∀k,BOk Gt (Bi w (fun Y=>J Y k)):=fun k=>⟨fun _ _ _ h=>(hRd _ _ _ h.rid).1,hJ k⟩
 have okX: ∀k,BOk Gt (Bi w (fun Y=>Jx Y k)):=fun k=>⟨fun _ _ _ h=>hGx _ _ _ h.rid,hJx k⟩
 refine bV (G:=Gt) func192 rfl rfl (Hp (Bi w (fun Y=>J Y 0)) []) (bO (Bi w _) hj (hJ 0)) (au (okJ 0))<|ae (E:=EE [133])<|fN 2 (okJ _) rfl rfl rfl<|fun b2=>aa<|ae (E:=EE [133])<|cf (l:=0) (h':=6) rfl underlying25 sizeOf24 rfl rfl om om rfl rfl<|?_
 refine cV rfl rfl ent133 rfl rfl (fun w' hw'=>(mq _ rfl w' ((okJ _).g _ _ _ hw')).mono fun e w'' h=> ?_)
 obtain ⟨c2,rfl,hgr,h2,hc2⟩:=h
 refine ⟨_,_,rfl,au (okJ _),hw'.news (hJ _) hgr [(33,c2,[.slice (spt bb) 6 6],67)] ?_ bN, ?_⟩
 ·intro n' b' c' t' hl
  rcases aC hl with ⟨_,e⟩|⟨_,hl⟩
  ·cases e;exact ⟨h2,hc2⟩
  ·cases hl
 clear hw' hgr h2 hc2
 refine aa<|aj<|?_
 refine ef (fun k=>(Bi w (fun Y=>J Y (fJ a k).length))) (fun _ k=>Bi w (fun Y=>Jx Y (fJ a k).length)) (fun _=>okJ _) (fun _ _=>okX _) (fun _=>rfl) (fun _ _=>rfl) rfl rfl ent188 (pu c2 bb a 6 dc ha) (fun x hx=>by obtain ⟨k,hk,rfl⟩:=List.mem_map.1 hx;rfl) rfl (fun _=>[(2,b2,[.func (.yield l) #[] #[]],82),(33,c2,[.slice (spt bb) 6 6],67)]) (fun c _ _=>c=.ret) trv (fun k Y w' h=>⟨cv (n:=33) rfl rfl w' h,(hRd _ _ _ h.rid).2⟩) ?_ ?_ ?_
 ·intro k x hx R hR
  obtain ⟨hk,rfl⟩:=LX a 6 k x hx
  rw[show 64*6-1-k=383-k from rfl]
  refine ae (E:=EE [133])<|Asg rfl<|aa<|bC (E:=EE [133])<|Asg rfl<|aa<|?_
  refine ⟨rfl,_,rfl, ?_⟩
  rcases Decidable.em (dig a (383-k)=1)with h1|h1
  ·refine aj<|ae (E:=EE [133])<|Mv rfl<|Bnr (v:=.bool true) rfl rfl (fun w=>(bX _ _ _).trans (congrArg (fun b=>Result.ok (Value.bool b) w) (beq_iff_eq.2 h1)))<|Mv rfl<|ch 2 rfl rfl rfl isAgg82 rfl rfl<|Mv rfl<|?_
   refine cX ((hY.b (k:=(fJ a k).length) (WM a k om h1) w).br R.l R.D R.rb R.Y R.W) (hR (Bi w (fun Y=>J Y ((fJ a k).length+1))) rfl (okJ _)).2.1 (hR (Bi w (fun Y=>Jx Y ((fJ a k).length+1))) rfl (okX _)).2.1 rfl rfl rfl rfl rfl ?_ ?_
   ·refine aY rfl (fun _=>aJ _) rfl rfl<|Pk rfl rfl rfl<|aa<|aq rfl<|ap<|?_
    show∃L',_=Hp (R.b (Bi w (fun Y=>J Y (fJ a (k+1)).length))) L'∧i6 L' [(2,b2,[.func (.yield l) #[] #[]],82),(33,c2,[.slice (spt bb) 6 6],67)]
    rw[vi a k h1]
    exact ⟨_,rfl,trv⟩
   ·refine aY rfl (fun _=>aJ _) rfl rfl<|Pk rfl rfl rfl<|aa<|aV rfl<|am<|Rr<|?_
    show∃L',_=Hp (R.b (Bi w (fun Y=>Jx Y (fJ a (k+1)).length))) L'∧Code.ret=Code.ret
    rw[vi a k h1]
    exact ⟨_,rfl,rfl⟩
  ·refine aj<|ae (E:=EE [133,3000000])<|Mv rfl<|Bnr (v:=.bool false) rfl rfl (fun w=>(bX _ _ _).trans (congrArg (fun b=>Result.ok (Value.bool b) w) (beq_eq_false_iff_ne.2 h1)))<|Mv rfl<|Sk<|Sk<|Sk<|Sk<|Pk rfl rfl rfl<|aa<|aq rfl<|ap<|?_
   show∃L',_=Hp (R.b (Bi w (fun Y=>J Y (fJ a (k+1)).length))) L'∧i6 L' [(2,b2,[.func (.yield l) #[] #[]],82),(33,c2,[.slice (spt bb) 6 6],67)]
   rw[HT a k h1]
   exact ⟨_,rfl,trv⟩
 ·intro D _
  refine cP (.inr rfl) (hJ _) (cR rfl (fun w hw=>⟨⟨_,rfl⟩,.inl ?_⟩))
  have:=bD (hJ _) hw.rid
  rw[eN]at this
  rw[Ph]
  exact this
 ·intro D c j L' _ hc
  subst hc
  exact cP (.inl rfl) (hJx _) (cR rfl (fun w hw=>⟨⟨_,rfl⟩,.inr ⟨_,bD (hJx _) hw.rid⟩⟩))
end
end Go.Proofs.YtfgacclgjklgnaaGreatDoor
