"""The programs that stand as examples in the document."""

plain = (("pass", 1), ("put", 1), ("turn", 1))
renew = ((2, (None,) * 5, plain), ((0, 1, 2),), ((
    ("draw", 3), ("draw", 4), ("set", 0, ((0, 1), (3, 1))), ("set", 1, ((1, 1), (4, 1))),
    ("set", 2, ((2, 1), (3, 1), (4, 1)))),))
bus = ((2, (None, None, 0, 0), plain), ((0, 1),), ((("set", 2, ((0, 1),)), ("set", 3, ((1, 1),))),))
round_way = (("set", 3, ((0, 1),)), ("set", 0, ((1, 1),)), ("set", 1, ((2, 1),)), ("set", 2, ((3, 1),)))
turned = ((2, (None,) * 4, plain), ((0, 1, 2),), ((("many", round_way),),))
new_way = (("draw", 2), ("set", 0, ((0, 1), (2, 1))), ("set", 1, ((1, 1), (2, 1))), ("call", 1, (2,)))
deep = ((2, (None,) * 3, plain), ((0, 1),), ((("call", 1, ()),), (("one", ((("set", 2, ()),), new_way)),)))
lost = (deep[0], deep[1], deep[2] + ((("call", 2, ()),),))
thrice = ((3, (None, None), (("put", 1), ("read", 2), ("turn", 1))), ((0, 1),), ((("set", 1, ((0, 1), (1, 2))),),))
small = (2, (None, 0), (("pass", 1), ("put", 2)))
